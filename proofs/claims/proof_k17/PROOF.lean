import PyProof.Rows.All
import Wide.All
import OpenK.AllK
import Wide.FinOn
import HandS.ForMost
import HandS.Walk
import HandS.Deep
import HandS.Zip
import HandS.TupAny
import HandS.IsInst
import HandS.Strs
import HandS.More
import HandS.Flow
import HandS.Style
import HandS.NoneIn
import KE.SortData
import KE.GoesEnum
import KE.GoesMore
import HandS.Defaults
import HandS.WordsExc
import HandS.DictComp
import HandS.Iter
import HandS.MakeKwOnly
import HandS.TupMul
import PyProof.ReprLen
import HandS.Small
import PyProof.TupleOfSeq
import KE.OsArith
import HandS.Text
import HandS.FStr
import PyProof.StrLawsChain
import PyProof.StrLawsTight
import PyProof.Rows.StrItems
import KE.LtSeq
import HandS.ExcInit
import HandS.ExcOwn
import HandS.TryOnly
import HandS.ExcIs
import HandS.ExcField
import KE.KExcInit
import KE.KTryMore
import PyProof.ListRange
import HandS.RaiseMore
import PyProof.RangeFor
import PySem.Challenge.RW_letinrow_k17_asked_of_rows_without_an_or
set_option Elab.async false
set_option linter.all false
set_option maxRecDepth 100000
set_option maxHeartbeats 2000000
namespace Lk
open PySem PySem.Spec PyProof.Rows L2

/-! ### either of two rules -/
section
variable {X : Cx}
theorem pe_or2 {e : Expr} {t u : TE} (a : PE X e t) (b : PE X e u) : PE X e (fun σ H Q => t σ H Q ∨ u σ H Q) :=
  ⟨fun pins s σ H Q I h => h.elim (a.run pins s σ H Q I) (b.run pins s σ H Q I)⟩
theorem pi_or2 {tg e : Expr} {t u : TI} (a : PI X tg e t) (b : PI X tg e u) : PI X tg e (fun σ H R => t σ H R ∨ u σ H R) :=
  ⟨fun pins s σ H R I h => h.elim (a.run pins s σ H R I) (b.run pins s σ H R I)⟩
theorem sl_or2 {r r' : V → Option Int → Option Int → Hp → VK → Prop} (a : SlR X r) (b : SlR X r') : SlR X (fun x l h H Q => r x l h H Q ∨ r' x l h H Q) :=
  fun pins s σ H x v vl vu lo hi sl Q I rx hs pl pu h => h.elim (a pins s σ H x v vl vu lo hi sl Q I rx hs pl pu) (b pins s σ H x v vl vu lo hi sl Q I rx hs pl pu)
end

/-! ### what is known in between -/
section
variable {X : Cx}
def tMid (t : TE) : TE := fun σ H Q => ∃ M : V → Hp → Prop, t σ H M ∧ ∀ v H', M v H' → Q v H'
theorem pe_mid {e : Expr} {t : TE} (h : PE X e t) : PE X e (tMid t) :=
  ⟨fun pins s σ H Q I ⟨M, h1, h2⟩ => thn (h.run pins s σ H M I h1) fun u s1 ⟨v, H1, I1, r, q⟩ => ⟨v, H1, I1, r, h2 v H1 q⟩⟩
def tMidT (t : TT) : TT := fun σ H Q => ∃ M : Bool → Hp → Prop, t σ H M ∧ ∀ v H', M v H' → Q v H'
theorem pt_mid {e : Expr} {t : TT} (h : PT X e t) : PT X e (tMidT t) :=
  ⟨fun pins s σ H Q I ⟨M, h1, h2⟩ => thn (h.run pins s σ H M I h1) fun u s1 ⟨H1, I1, q⟩ => ⟨H1, I1, h2 u H1 q⟩⟩
def tMidS (t : TS) : TS := fun D σ H => ∃ M : L2.St → Hp → Prop, t { D with nx := M } σ H ∧ ∀ σ' H', M σ' H' → D.nx σ' H'
theorem ps_mid {st : Stmt} {t : TS} (h : PS X st t) : PS X st (tMidS t) := by
  refine ⟨fun pins s σ H D I ⟨M, h1, h2⟩ => thn (h.run pins s σ H { D with nx := M } I h1) fun fl s1 q => ?_⟩
  cases fl with
  | next =>
    obtain ⟨σ', H', I', q'⟩ := q
    exact ⟨σ', H', I', h2 σ' H' q'⟩
  | brk => exact q
  | cont => exact q
  | ret u => exact q
end

/-! ### in, over a tuple of data -/
section
variable {X : Cx}
def rInT (K : PySem.W.Frag) : R2 := fun x y H Q => ∃ d ds, Dp K H x d ∧ Dp K H y (.tuple ds) ∧ SeqAt.shaped d = true ∧ SeqAt.shaped (.tuple ds) = true ∧ Q (.bl (ds.any fun z => PyData.eqv z d)) H
theorem op_inT (hu : X.A.units + 65 < cLine) : OpR X (compareOp .In) (rInT X.K) := by
  intro pins s σ H x y v u Q I rx ry h
  obtain ⟨d, ds, hd, he, sd, se, q⟩ := h
  obtain ⟨as, r1⟩ := Dp.reads I d x v hd rx
  obtain ⟨bs, r2⟩ := Dp.reads I (.tuple ds) y u he ry
  exact SeqAt.in_tuple_reads r2 r1 (SeqAt.canLay_of_shaped se) (SeqAt.canLay_of_shaped sd) (room_in_shaped sd hu) ⟨.bl _, H, I, rfl, q⟩
end

/-! ### room, where nobody writes a text of a thing around us -/
structure Room (k : Nat) (A : Around) : Prop where
  rm : L2.Room k A
  gd : A.guards = some []
theorem Room.mono {j k : Nat} {A : Around} (z : Room k A) (h : j ≤ k) : Room j A := ⟨z.rm.mono h, z.gd⟩
theorem Room.units {k : Nat} {A : Around} (z : Room k A) : A.units + 64 < cLine := z.rm.units
theorem Room.un {k : Nat} {A : Around} (z : Room k A) : A.units + 16 * k + 200 < cLine := z.rm.un
theorem Room.hd {k : Nat} {A : Around} (z : Room k A) : A.handled = none := z.rm.hd
theorem hu_of {A : Around} {k : Nat} (z : Room k A) : A.units + 1 < cLine := L2.hu_of z.rm
/-- a def's promise, asked for only there -/
structure FnOk (P : Program) (w : World) (K : PySem.W.Frag) (mg : Str → Option Value) (base : Heap) (CX : CXT) (k : Nat) (f : Addr) (fd : FuncData) (ps : List Str) (sp : Sp) : Prop where
  len : ∀ vs H Q E, sp vs H Q E → vs.length = ps.length
  run : ∀ (A : Around) (out : List Env) (s : Shared) (H : Hp) (ar : Args) (us : List Value) (vs : List V) (Q : VK) (E : XK), Room k A → Env0 P w K mg base A out s H → BindsTo s fd ar (ps.zip us) → Vals vs us → sp vs H Q E →
    codeAny (model P w) A (.call (.ref f) ar) (CR CX out P w H s Q E) s
section
variable {P : Program} {w : World} {K : PySem.W.Frag} {mg : Str → Option Value} {base : Heap} {CX : CXT} {k : Nat} {f : Addr} {fd : FuncData} {N ps : List Str} {sp : Sp}
theorem FnOk.mono {j : Nat} (F : FnOk P w K mg base CX j f fd ps sp) (h : j ≤ k) : FnOk P w K mg base CX k f fd ps sp := ⟨F.len, fun A out s H ar us vs Q E z => F.run A out s H ar us vs Q E (z.mono h)⟩
theorem FnOk.imp {sq : Sp} (F : FnOk P w K mg base CX k f fd ps sp) (h : ∀ vs H Q E, sq vs H Q E → sp vs H Q E) : FnOk P w K mg base CX k f fd ps sq :=
  ⟨fun vs H Q E z => F.len vs H Q E (h _ _ _ _ z), fun A out s H ar us vs Q E z e b v m => F.run A out s H ar us vs Q E z e b v (h _ _ _ _ m)⟩
/-- its body, by rules -/
theorem fok_of {name qual : Str} {params : Arguments} {body : List Stmt} {scope : Scope} {dV kV doc pm cdv ct oc : Value} {an od : Option Addr} {osl : Array (Option Value)}
    (lk : K.lookup f = some ⟨oc, od, .func (PySem.W.fnOf name qual params body scope dV kV doc pm an cdv ct), osl⟩) (hc : PySem.W.codeIn K cdv qual = true) (S : FnScope N ps scope) (hn : ∀ vs H Q E, sp vs H Q E → vs.length = ps.length)
    (hb : ∀ (A : Around) (out : List Env) (s : Shared) (H : Hp) (vs : List V) (Q : VK) (E : XK), Room k (A.deeper (envOfC qual scope s.heap.objs.size f cdv)) → sp vs H Q E →
      ∃ t, PSs (cxOf CX P w K mg base N qual scope f cdv A out s H E) body t ∧ t { nx := fun _ G => Q .non G, rt := Q } (start N vs) H) :
    FnOk P w K mg base CX (k + 1) f (PySem.W.fnOf name qual params body scope dV kV doc pm an cdv ct) ps sp := by
  refine ⟨hn, fun A out s H ar us vs Q E z e0 bd rv hs => ?_⟩
  have kin : K.In s.heap := e0.mod.kin.keeps fun c u q => (e0.bs c u q).1
  have nol : s.heap.NoLimit := e0.mod.nolimit.keeps fun c u q => (e0.bs c u q).1
  have kinds : ∀ y ∈ ps.zip us, scope.names.lookup y.1 = some .local ∨ (scope.names.lookup y.1 = some .cell ∧ ((cellsFrom (s.heap.objs.size + 1) scope.names []).lookup y.1).isSome = true) := by
    rintro ⟨n, v⟩ hy
    rcases S.par n (List.of_mem_zip hy).1 with c | c
    · exact .inl c
    · exact .inr ⟨c, PySem.W.cellsFrom_some _ _ _ (.inl c)⟩
  refine codeAny_call_function z.rm.depth (kin _ _ lk) rfl S.co S.gen rfl (PySem.W.codeRec_of kin hc) (bd _ _ _ _ ?_)
  refine wpAny_newFunctionEnv_cells S.kind kinds ?_
  rintro env rfl s1 ic
  refine ⟨nol.keeps ic.toInCall.keep, codeAny_func ?_⟩
  obtain ⟨t, pt, qt⟩ := hb A out s H vs Q E ⟨z.rm.deeper _, z.gd⟩ hs
  have I : Inv (cxOf CX P w K mg base N qual scope f cdv A out s H E) [] (start N vs) H s1 := inv_start S z.rm.hd e0 (hn _ _ _ _ hs) rv ic
  refine wpAny_mono (pt.run [] s1 (start N vs) H _ I qt) (fun fl s2 ends => ?_) fun _ _ h => h
  cases fl with
  | brk => exact (let ⟨_, _, _, no⟩ := ends; no : False).elim
  | cont => exact (let ⟨_, _, _, no⟩ := ends; no : False).elim
  | next =>
    obtain ⟨σ1, H1, J, w1⟩ := ends
    exact ⟨.non, H1, J.os, J.bare, J.base, J.hok, rfl, w1⟩
  | ret u =>
    obtain ⟨v, σ1, H1, J, ru, w1⟩ := ends
    exact ⟨v, H1, J.os, J.bare, J.base, J.hok, ru, w1⟩
theorem fok {x qual : Str} {st : Stmt} (F : Fun K x qual st f fd) (S : FnScope N ps (defScope st)) (hn : ∀ vs H Q E, sp vs H Q E → vs.length = ps.length)
    (hb : ∀ (cdv : Value) (A : Around) (out : List Env) (s : Shared) (H : Hp) (vs : List V) (Q : VK) (E : XK), Room k (A.deeper (envOfC qual (defScope st) s.heap.objs.size f cdv)) → sp vs H Q E →
      ∃ t, PSs (cxOf CX0 P w K mg base N qual (defScope st) f cdv A out s H E).nox (defBody st) t ∧ t { nx := fun _ G => Q .non G, rt := Q } (start N vs) H) : FnOk P w K mg base CX0 (k + 1) f fd ps sp := by
  obtain ⟨oc, od, kV, doc, pm, an, cd, ct, sl, rfl, lk, hc⟩ := F.ex
  exact fok_of lk hc S hn fun A out s H vs Q E z hs => let ⟨t, a, b⟩ := hb cd A out s H vs Q E z hs; ⟨t, a.nox, b⟩
theorem fokX {x qual : Str} {st : Stmt} (F : Fun K x qual st f fd) (S : FnScope N ps (defScope st)) (hn : ∀ vs H Q E, sp vs H Q E → vs.length = ps.length)
    (hb : ∀ (cdv : Value) (A : Around) (out : List Env) (s : Shared) (H : Hp) (vs : List V) (Q : VK) (E : XK), Room k (A.deeper (envOfC qual (defScope st) s.heap.objs.size f cdv)) → sp vs H Q E →
      ∃ t, PSs (cxOf (L2.CX P w) P w K mg base N qual (defScope st) f cdv A out s H E) (defBody st) t ∧ t { nx := fun _ G => Q .non G, rt := Q } (start N vs) H) : FnOk P w K mg base (L2.CX P w) (k + 1) f fd ps sp := by
  obtain ⟨oc, od, kV, doc, pm, an, cd, ct, sl, rfl, lk, hc⟩ := F.ex
  exact fok_of lk hc S hn fun A out s H vs Q E z hs => hb cd A out s H vs Q E z hs
end
section
variable {X : Cx} {CX : CXT} {k : Nat} {f : Addr} {fd : FuncData} {ps ks : List Str} {sp : Sp} {E : XK} {g : List Value → List Value → List Value} {gV : List V → List V → List V}
theorem fn_ran {pins : List (Addr × Obj)} {σ : L2.St} {H : Hp} {s : Shared} {Q : VK} {ar : Args} {us : List Value} {vs : List V} (F : FnOk X.prog X.w X.K X.mg X.base CX k f fd ps sp) (z : Room k X.A) (hx : Passes CX X E)
    (I : Inv X pins σ H s) (bd : BindsTo s fd ar (ps.zip us)) (rv : Vals vs us) (h : sp vs H Q E) : wpAny (model X.prog X.w) X.A (call (.ref f) ar.pos ar.kw) (EP X pins σ Q) X.xe s := by
  refine wpAny_call (codeAny_mono (F.run X.A X.stack s H ar us vs Q E z I.env0 bd rv h) ?_)
  rintro (e | fl) s2 ends
  · exact hx pins σ H s e s2 I ends
  cases fl with
  | ret u => exact I.after ends
  | next => exact (ends : False).elim
  | brk => exact (ends : False).elim
  | cont => exact (ends : False).elim
end
/-! ### calls -/
section
variable {X : Cx} {CX : CXT} {k n : Nat} {f : Addr} {fd : FuncData} {ps ks : List Str} {sp : Sp} {E : XK} {x : Str} {p pos : Pos} {kws : List Keyword} {tk t : TA} {g : List Value → List Value → List Value} {gV : List V → List V → List V}
  {e : Expr} {es : List Expr} {dvs : List V} {ds : List Value}
theorem pe_call (F : FnOk X.prog X.w X.K X.mg X.base CX k f fd ps sp) (z : Room k X.A) (gl : Gl X x) (hm : X.mg x = some (.ref f)) (kp : PySem.W.keepIn X.K (.ref f) = true) (hb : Binds X.K fd ps ds) (hd : Vals dvs ds) (hx : Passes CX X E)
    (ha : PA X (e :: es) t) (hdb : (x == ("__debug__" : Str)) = false := by decide)
    (he : starEach (e :: es) X.env = (false, eval e X.env) :: starEach es X.env := by rfl) (hpl : (backTo pos (starEach es X.env)).any (·.1) = false := by rfl) :
    PE X (.Call (.Name x p) (e :: es) [] pos) (tCall sp dvs E t) := by
  constructor
  intro pins s σ H Q I h
  refine wpAny_Call_Name_kw (ld_glob I gl hm (PySem.W.callWith_K (h₀ := X.base) I.ok.mod.kin kp (thn (ha.run pos pins s σ H _ I h) ?_) he hpl) hdb)
  rintro us s1 ⟨vs, H1, I1, rv, q⟩
  have r2 : Vals (vs ++ dvs) (us ++ ds) := rv.append hd
  exact ⟨I1.kIn, fn_ran (ar := ⟨us, []⟩) F z hx I1 (hb s1 us I1.kIn (r2.length.symm.trans (F.len _ _ _ _ q))) r2 q⟩
end

/-! ### the head of a law -/
theorem law_ran {P : Program} {w : World} {K : PySem.W.Frag} {mg mb : Str → Option Value} {k : Nat} {fa a : Addr} {fd : FuncData} {x : Str} {sp : Sp} {s : Shared} {vs : List Value} {ns : List Int}
    (kin : K.In s.heap) (ng : s.heap.Ns mainGlobals mg) (nb : s.heap.Ns builtinsNs mb) (bb : ∀ y : Str, y ≠ "__name__" → mb y = bootBuiltins y) (nol : s.heap.NoLimit) (ge : s.gens = #[])
    (ha : s.heap.get? a = some { cls := .type "list", data := .seq vs.toArray }) (hi : IntsAre vs ns) (hl : ns.length ≤ sizeLine) (z : Room k callerA)
    (F : ∀ base : Heap, K.In base → base.Ns mainGlobals mg → FnOk P w K mg base CX0 k fa fd [x] sp) (bd : ∀ (c : Shared) (u : Value), BindsTo c fd ⟨[u], []⟩ [(x, u)])
    (hsp : ∀ H : Hp, SqL K H a (ns.map V.int) → sp [.ref a] H (fun v _ => v = .bl true) fun _ _ _ => False) :
    codeAny (model P w) callerA (.call (.ref fa) ⟨[.ref a], []⟩) (fun r c => r = .ok (.ret (.bool true)) ∧ OldK s.heap c.heap ∧ c.os = s.os ∧ AllBare c.gens) s := by
  have rv : Vals (ns.map V.int) vs := vals_ints hi
  have main : ∀ H : Hp, Only H → (∀ b, H b ≠ none → b = a ∧ K.lookup a = none) → SqL K H a (ns.map V.int) → HOk P w H s.heap →
      codeAny (model P w) callerA (.call (.ref fa) ⟨[.ref a], []⟩) (fun r c => r = .ok (.ret (.bool true)) ∧ OldK s.heap c.heap ∧ c.os = s.os ∧ AllBare c.gens) s := by
    intro H on at_ sq ok
    have off : ∀ {b : Addr}, b ≠ a → H b = none := fun {b} ne => Classical.byContradiction fun c => ne (at_ b c).1
    have hid : ∀ {b : Addr} {m : Str → Option Value}, s.heap.Ns b m → (hidT s.heap H).Ns b m := by
      rintro b m ⟨o, es, ep, g, d, r⟩
      refine ⟨o, es, ep, hidT_get g (off ?_), d, r⟩
      rintro rfl
      have q := ha.symm.trans g
      cases q
      cases d
    have kb : K.In (hidT s.heap H) := fun b o g => by
      refine hidT_get (kin b o g) (Classical.byContradiction fun c => ?_)
      obtain ⟨eb, no⟩ := at_ b c
      rw [eb, no] at g
      cases g
    have md : Mod K mg (hidT s.heap H) := by
      obtain ⟨mc, n1, n2⟩ := nol
      exact ⟨kb, hid ng, ⟨mb, hid nb, bb⟩, ⟨mc, hid n1, n2⟩⟩
    have e0 : Env0 P w K mg (hidT s.heap H) callerA [] s H :=
      { frames := rfl, mod := md, bs := fun b o g => of_hidT g, bsz := Nat.le_of_eq (hidT_size _ _), funs := trivial, frf := (fun b c => nomatch (show b ∈ ([] : List Addr) from c)), hok := ok, bare := .of_eq ge }
    refine codeAny_mono ((F _ kb (hid ng)).run callerA [] s H ⟨[.ref a], []⟩ [.ref a] [.ref a] _ _ z e0 (bd s (.ref a)) (.cons rfl .nil) (hsp H sq)) ?_
    rintro (er | fl) c ends
    · exact (ends : False).elim
    cases fl with
    | next => exact (ends : False).elim
    | brk => exact (ends : False).elim
    | cont => exact (ends : False).elim
    | ret u =>
      obtain ⟨v, H1, os, bare, un, ok1, ru, q⟩ := ends
      have q1 : v = .bl true := q
      subst q1
      obtain rfl : u = Value.bool true := ru
      refine ⟨rfl, OldK.of_keep ?_, os, bare⟩
      intro b o g
      rcases on b with h0 | ⟨ob, xs, h1⟩
      · exact un.keep b o g h0 (fun c => nomatch (show b ∈ ([] : List Addr) from c)) (fun c => nomatch c)
      · have g2 := (ok1 b _ (un.frzs b ob _ h1)).1
        have g1 := (ok b _ h1).1
        rw [g] at g1
        cases g1
        exact g2
  by_cases no : K.lookup a = none
  · refine main (fun b => if b = a then some (.frz { cls := .type "list", data := .seq vs.toArray } (.lst (ns.map V.int))) else none) ?_ ?_ (.inl (.inr ⟨{ cls := .type "list", data := .seq vs.toArray }, if_pos rfl⟩)) ?_
    · intro b
      by_cases c : b = a
      · exact .inr ⟨_, _, if_pos c⟩
      · exact .inl (if_neg c)
    · intro b q
      by_cases c : b = a
      · exact ⟨c, no⟩
      · exact absurd (if_neg c) q
    · intro b u q
      by_cases c : b = a
      · have q1 := (if_pos c).symm.trans q
        cases q1
        subst c
        exact ⟨ha, by rw [List.length_map]; exact hl, vs, _, rv, ha⟩
      · have q1 := (if_neg c).symm.trans q
        cases q1
  · obtain ⟨o, ho⟩ := Option.ne_none_iff_exists'.mp no
    have g := kin a o ho
    rw [ha] at g
    cases g
    refine main (fun _ => none) (fun _ => .inl rfl) (fun b q => absurd rfl q) (.inr ⟨_, vs.toArray, _, ho, rfl, rfl, rfl, ?_, by simpa using rv⟩) (fun b u q => ?_)
    · rw [List.size_toArray, hi.length]
      exact hl
    · have q' : (none : Option HO) = some u := q
      cases q'
theorem walk_law {l : PySem.W.OpenLaw} {n k : Nat} {q : Program} {loose : List Str} {XP : (Str → Option Value) → Heap → Prop} {YP : World → Heap → Prop} {d : DefRec} {K : Params → PySem.W.Frag} {sp : World → Sp} {x : Str}
    (hn : l.most = some n) (hn2 : n ≤ sizeLine) (hdf : d.params.defaults = []) (z : L2.Room k callerA)
    (hY : ∀ (w : World) (h : Heap), YP w h → (K w.params).In h)
    (F : ∀ (w : World) (mg : Str → Option Value) (fa : Addr) (h : Heap), (K w.params).In h → h.Ns mainGlobals mg → mg d.name = some (.ref fa) →
      ∃ fd : FuncData, (∀ (s : Shared) (u : Value), BindsTo s fd ⟨[u], []⟩ [(x, u)]) ∧ ∀ base : Heap, (K w.params).In base → base.Ns mainGlobals mg → FnOk l.prog w (K w.params) mg base CX0 k fa fd [x] (sp w))
    (hsp : ∀ (w : World) (H : Hp) (a : Addr) (ns : List Int), ns.length ≤ n → SqL (K w.params) H a (ns.map V.int) → sp w [.ref a] H (fun v _ => v = .bl true) fun _ _ _ => False) :
    PySem.W.WalkO q loose XP YP l.row.toRowW d [] (fun f vs => PySem.call f vs) := by
  refine Att.attach_call hn hdf ?_
  intro w s0 s1 mg mb fa o pm cd doc a vs ns G Y _ _ _ hmg ho hi hl hg
  have kin := hY w _ Y
  obtain ⟨fd, bd, ok⟩ := F w mg fa _ kin G.T.g hmg
  exact law_ran kin G.T.g G.T.b G.T.builtins G.T.nolimit hg ho hi (Nat.le_trans hl hn2) ⟨z, rfl⟩ ok bd fun H sq => hsp w H a ns hl sq

/-! ### repr -/
section
variable {X : Cx}
def rRepr (K : PySem.W.Frag) : List V → Hp → VK → Prop := fun xs H Q => ∃ (a : Addr) (d : PyData), xs = [.ref a] ∧ Dp K H (.ref a) d ∧ d.showable = true ∧ d.hasDict = false ∧ d.depth ≤ 60 ∧ d.shown.length ≤ sizeLine ∧ Q (.str d.shown) H
theorem call_repr {k : Nat} (z : Room k X.A) : CallR X (.builtin "repr") (rRepr X.K) := by
  intro pins s σ H xs us Q I r h
  obtain ⟨a, d, rfl, hd, sh, nd, dp, sz, q⟩ := h
  obtain ⟨u, rfl, ru⟩ := vals1 r
  cases ru
  obtain ⟨as, rd⟩ := Dp.reads I d (.ref a) (.ref a) hd rfl
  refine repr_of_reads' rd sh (PyData.noDict_hsm nd) z.gd (by have := z.units; omega) (fun _ _ e => e) (fun h' u tk kp => ?_) sz
  exact ⟨.str d.shown, H, I.kept (t' := tk) kp, ⟨u, rfl⟩, q⟩
end
end Lk
set_option maxRecDepth 100000
set_option maxHeartbeats 4000000
namespace Lk
open PySem PySem.Spec PyProof.Rows L2

/-! ### enumerate(tuple) -/
theorem meets_enum1 {v : Value} {o : Obj} {H : Heap → Prop} (B : Begins v o H) :
    Meets (Builtin.«enumerate.__new__» ⟨[.type "enumerate", v], []⟩) (fun _ R s => H s.heap ∧
      R (.ok (.ret (.ref (s.heap.push o).objs.size))) { s with heap := (s.heap.push o).push { cls := .type "enumerate", data := .fields #[.none, .bool false, .ref s.heap.objs.size, rawInt 0, .none, .none] } }) :=
  .of_wp fun prog w A R s h => by
    obtain ⟨hp, g, d, tk, os⟩ := s; obtain ⟨h1, h⟩ := h
    have hsub := sub_enumerate
    have q1 : ∀ {A' : Around} {E : Value → Shared → Prop} {Q : Value → Shared → Prop}, Q (.ref hp.objs.size) ⟨hp.push o, g, d, tk, os⟩ → wpAny (model prog w) A' (pyIter v) Q E ⟨hp, g, d, tk, os⟩ :=
      fun q => B.iter prog w _ _ ⟨hp, g, d, tk, os⟩ _ h1 q
    wp_walk using q1
    refine wpAny_stack_any fun st => wpAny_pure ?_
    split
    · rename_i c _ _ _ _ _
      cases (c == Value.type "enumerate")
      · wp_walk using q1
        exact ⟨_, rfl, h⟩
      · wp_walk using q1
        exact ⟨_, rfl, h⟩
    · wp_walk using q1
      exact ⟨_, rfl, h⟩
section
variable {prog : Program} {w : World} {A : Around} {E : Value → Shared → Prop} {s : Shared}
theorem enum1_begins {v : Value} {o : Obj} {H : Heap → Prop} {Q : Value → Shared → Prop} (B : Begins v o H) (h1 : H s.heap)
    (h : ∀ h', IsEnum h' (s.heap.objs.size + 1) s.heap.objs.size 0 .none → h'.get? s.heap.objs.size = some o → h'.objs.size = s.heap.objs.size + 2 →
      (∀ b o, s.heap.get? b = some o → h'.get? b = some o) → Q (.ref (s.heap.objs.size + 1)) { s with heap := h' }) :
    wpAny (model prog w) A (call (.type "enumerate") [v]) Q E s := by
  refine callType_new F.called_enumerate (by decide) (F.typeCall_enumerate_1 _) (F.newCall_enumerate_1 _) (fun obj => F.args_object_init_2 obj _) F.entry_enumerate_new
    (meets_enum1 B) ⟨h1, ?_⟩
  have hz : (s.heap.push o).objs.size = s.heap.objs.size + 1 := Heap.size_push ..
  show _ ∧ _
  rw [hz]
  have he : IsEnum ((s.heap.push o).push { cls := .type "enumerate", data := .fields #[.none, .bool false, .ref s.heap.objs.size, rawInt 0, .none, .none] }) (s.heap.objs.size + 1) s.heap.objs.size 0 .none := by
    have := Heap.get?_push_size (s.heap.push o) (o := { cls := .type "enumerate", data := .fields #[.none, .bool false, .ref s.heap.objs.size, rawInt 0, .none, .none] }) rfl
    rw [hz] at this; exact this
  refine ⟨⟨_, he, rfl⟩, h _ he (Heap.get?_push_of_some _ (Heap.get?_push_size _ B.free)) (by rw [Heap.size_push, hz]) fun b o x => Heap.get?_push_of_some _ (Heap.get?_push_of_some _ x)⟩
end
def IteT (K : PySem.W.Frag) (a : Addr) : It :=
  ⟨fun i H => ∃ (xs : List V) (x : V), SqT K H a xs ∧ xs[i]? = some x, fun i H v H' => ∃ T x, v = .ref T ∧ H T = none ∧ H' = upd H T (.tup [.int (i : Nat), x]) ∧ ∀ xs, SqT K H a xs → xs[i]? = some x, fun i H => ∃ xs : List V, SqT K H a xs ∧ xs.length = i⟩
theorem turn_enumT {P : Program} {w : World} {K : PySem.W.Frag} {elts : List Expr} {kk : Nat} {tpos : Pos} (a e it : Addr) :
    Turn P w K (.Tuple elts kk tpos) (IteT K a) [e, it] e (fun i h => (∃ old, IsEnum h e it ((i : Nat) : Int) old) ∧ h.IsTupleIter it a i ∧ e ≠ it) where
  mem := by simp
  obj := fun i h st b hb => by
    obtain ⟨⟨old, he⟩, ⟨o, ho, hc, hd⟩, _⟩ := st
    have e' : b = e ∨ b = it := by simpa using hb
    rcases e' with z | z
    · rw [z]; exact ⟨_, he, fun v q => nomatch q⟩
    · rw [z]; exact ⟨o, ho, fun v q => by rw [hd] at q; cases q⟩
  keep := fun i h h' st k => let ⟨⟨old, he⟩, hi, hne⟩ := st; ⟨⟨old, k e (by simp) _ he⟩, hi.at fun o q => k it (by simp) o q, hne⟩
  item := by
    intro X hP hw hK hc i pins s σ H E I hf st hg
    subst hP hw hK
    obtain ⟨⟨old, he⟩, hit, hne⟩ := st
    obtain ⟨xs, x, hq, hx⟩ := hg
    obtain ⟨its, rv, p, hz⟩ := I.tuple hq
    obtain ⟨u, hu, ru⟩ := rv.get hx
    have hel : e < s.heap.objs.size := Heap.lt_size he
    have hil : it < s.heap.objs.size := by obtain ⟨_, q, _⟩ := hit; exact Heap.lt_size q
    have hai : a ≠ it := by
      rintro rfl
      obtain ⟨o, ho, hcc, _⟩ := p
      obtain ⟨o', ho', hc', _⟩ := hit
      rw [ho] at ho'; cases ho'
      rw [hcc] at hc'
      exact absurd (Value.type.inj hc') (by decide)
    have hae : e ≠ a := by
      rintro rfl
      obtain ⟨o, ho, hcc, _⟩ := p
      have ho' := ho.symm.trans he
      cases ho'
      exact absurd (Value.type.inj hcc) (by decide)
    have hlt : i < its.toArray.size := by
      rw [List.size_toArray]
      exact (List.getElem?_eq_some_iff.mp hu).1
    refine wpAny_pyNext_enum_itemD (Draws.tuple (A := X.A.in1) (I.ok.hd hc) it a hai its.toArray) he ⟨hit, p⟩ hlt hne (by simp [hne, hae]) fun v h' tk hxv ho st' hT hsz hk => ?_
    have ev : v = u := by
      have q : its.toArray[i]? = some v := hxv
      rw [List.getElem?_toArray, hu] at q
      exact (Option.some.inj q).symm
    subst ev
    refine ⟨_, rfl, wpAny_letOwnedTupleGo_enum (s := { s with heap := h', toks := tk + 1 }) ho fun h'' he' sb => ?_⟩
    have hT2 : h''.get? s.heap.objs.size = some { cls := .type "tuple", data := .seq #[.int i tk, v] } := (sb.2 _ (Nat.ne_of_gt hel)).trans hT
    have new : ObjOk X.prog X.w (upd H s.heap.objs.size (.tup [.int (i : Nat), x])) h'' s.heap.objs.size (.tup [.int (i : Nat), x]) :=
      ⟨by show 2 ≤ sizeLine; decide, [.int i tk, v], .cons ⟨_, rfl⟩ (.cons ru .nil), ⟨_, hT2, rfl, _, rfl⟩⟩
    have I1 : Inv X pins σ (upd H s.heap.objs.size (.tup [.int (i : Nat), x])) { s with heap := h'', toks := tk + 1 } :=
      I.turnedNew (ch := [e, it]) (fun b ob hb q => (sb.2 b (fun z => hb (by simp [z]))).trans (hk b ob (fun z => hb (by simp [z])) (fun z => hb (by simp [z])) q)) hf (Nat.le_refl _) new
    refine ⟨.ref s.heap.objs.size, _, I1, rfl, ⟨_, x, rfl, I.hok.fresh (Nat.le_refl _), rfl, fun ys hy => by rw [I.tuple_inj hy hq]; exact hx⟩, ⟨⟨v, ?_⟩, st'.1.at fun o q => (sb.2 it (Ne.symm hne)).trans q, hne⟩, fun b hb => ?_⟩
    · have e1 : ((i + 1 : Nat) : Int) = (i : Int) + 1 := by omega
      rw [e1]; exact he'
    · have hb' : b < s.heap.objs.size := by
        have e' : b = e ∨ b = it := by simpa using hb
        rcases e' with z | z
        · rw [z]; exact hel
        · rw [z]; exact hil
      rw [upd_ne (Nat.ne_of_lt hb')]
      exact (hf b hb).1
  done := by
    intro X hP hw hK hc i pins s σ H E I hf st hg
    subst hP hw hK
    obtain ⟨⟨old, he⟩, hit, hne⟩ := st
    obtain ⟨xs, hq, hx⟩ := hg
    obtain ⟨its, rv, p, hz⟩ := I.tuple hq
    obtain ⟨f0, f1, f2, f3, f4, f5⟩ := hf it (by simp)
    have hl := rv.length
    have hai : a ≠ it := by
      rintro rfl
      obtain ⟨o, ho, hcc, _⟩ := p
      obtain ⟨o', ho', hc', _⟩ := hit
      rw [ho] at ho'; cases ho'
      rw [hcc] at hc'
      exact absurd (Value.type.inj hc') (by decide)
    have en : i = its.toArray.size := by
      rw [List.size_toArray]
      omega
    subst en
    exact wpAny_pyNext_enum_endD (Draws.tuple (A := X.A.in1) (I.ok.hd hc) it a hai its.toArray) he ⟨hit, p⟩ fun h' eb => ⟨rfl, I.turned (t' := s.toks) (fun b o hb q => eb b o hb q) f0 f1 f3 f4 f5⟩
  self := fun A i s Q E st h => let ⟨⟨_, he⟩, _⟩ := st; wpAny_pyIter_enum he h
def iEnumT (K : PySem.W.Frag) (ta : TA) : TI := fun σ H R => ta σ H fun vs H1 => ∃ a xs, vs = [.ref a] ∧ SqT K H1 a xs ∧ R (IteT K a) H1
theorem pi_enumT {X : Cx} {e : Expr} {ta : TA} {p pos tpos : Pos} {elts : List Expr} {kk : Nat} (hg : Gl X "enumerate") (hm : X.mg "enumerate" = none) (ha : PA X [e] ta) (hs : starEach [e] X.env = [(false, eval e X.env)] := by rfl) :
    PI X (.Tuple elts kk tpos) (.Call (.Name "enumerate" p) [e] [] pos) (iEnumT X.K ta) := by
  refine ⟨fun pins s σ H R I h => ?_⟩
  refine Call_ (ld_blt I hg hm boot_enumerate (PyProof.Rows.callWith_type1 (thn (ha.run pos pins s σ H _ I h) fun us s1 ⟨vs, H1, I1, r1, q1⟩ => ?_) hs rfl))
  obtain ⟨a, xs, ex, hq, q⟩ := q1
  subst ex
  cases r1 with
  | cons r rr =>
    cases rr
    cases r
    obtain ⟨its, rv, p', hz⟩ := I1.tuple hq
    refine enum1_begins (begins_tuple a its.toArray) p' fun h' he hit hsz hk => wpAny_pyIter_enum he ?_
    have I2 : Inv X pins σ H1 { s1 with heap := h' } := I1.kept (t' := s1.toks) hk
    refine ⟨s1.heap.objs.size + 1, [s1.heap.objs.size + 1, s1.heap.objs.size], _, _, H1, rfl, I2, turn_enumT a (s1.heap.objs.size + 1) s1.heap.objs.size, ⟨⟨.none, he⟩, ⟨_, hit, rfl, rfl⟩, Nat.succ_ne_self _⟩, fun b hb => ?_, q⟩
    have e' : b = s1.heap.objs.size + 1 ∨ b = s1.heap.objs.size := by simpa using hb
    have hle : s1.heap.objs.size ≤ b := by
      rcases e' with z | z
      · rw [z]; exact Nat.le_add_right _ _
      · rw [z]; exact Nat.le_refl _
    exact I1.fpOk hle (I1.hok.fresh hle)
theorem walk_enumT {K : PySem.W.Frag} {a : Addr} {xs : List V} : Walk (IteT K a) xs.length (fun H => SqT K H a xs) (YPair (fun i => some (.int (i : Nat))) (fun i => xs[i]?)) := by
  refine ⟨fun i _ hi q => ⟨xs, xs[i], q, by simp [hi]⟩, fun _ q => ⟨xs, q, rfl⟩, fun i H v H' _ q y => ?_⟩
  obtain ⟨T, x, h1, h2, h3, h4⟩ := y
  exact ⟨T, .int (i : Nat), x, h1, h2, h3, rfl, h4 xs q⟩

/-! ### min, max of two texts -/
def lmin (x y : Str) : Str := if y.cps.toList < x.cps.toList then y else x
def lmax (x y : Str) : Str := if x.cps.toList < y.cps.toList then y else x
theorem cmp_lt_strs {prog : Program} {w : World} {A : Around} {P : Nat → Value → Prop} (val : Nat → Str) (hval : ∀ i v, P i v → ∃ t, v = .str (val i) t) :
    CmpOf prog w A .Lt P (fun i j => decide ((val i).cps.toList < (val j).cps.toList)) := fun i j vi vj s Q E hi hj h => by
  obtain ⟨t, rfl⟩ := hval i vi hi
  obtain ⟨u, rfl⟩ := hval j vj hj
  exact richCompare_gives (op := .Lt) (typeIs_str s _ t) (typeIs_str s _ u) F.slot_str_lt F.entry_str_lt (F.args_str_lt_2 _ _) (gives_str_lt _ _ t u) (fun x => nomatch x) h
theorem cmp_gt_strs {prog : Program} {w : World} {A : Around} {P : Nat → Value → Prop} (val : Nat → Str) (hval : ∀ i v, P i v → ∃ t, v = .str (val i) t) :
    CmpOf prog w A .Gt P (fun i j => decide ((val j).cps.toList < (val i).cps.toList)) := fun i j vi vj s Q E hi hj h => by
  obtain ⟨t, rfl⟩ := hval i vi hi
  obtain ⟨u, rfl⟩ := hval j vj hj
  exact richCompare_gives (op := .Gt) (typeIs_str s _ t) (typeIs_str s _ u) F.slot_str_gt F.entry_str_gt (F.args_str_gt_2 _ _) (gives_str_gt _ _ t u) (fun x => nomatch x) h
def txtAt (x y : Str) (i : Nat) : Str := if i = 0 then x else y
theorem two_at {x y : Str} {t u : Tok} {i : Nat} {v : Value} (h : (#[.str x t, .str y u] : Array Value)[i]? = some v) : ∃ k, v = .str (txtAt x y i) k := by
  match i, h with
  | 0, h => exact ⟨t, (Option.some.inj h).symm⟩
  | 1, h => exact ⟨u, (Option.some.inj h).symm⟩
  | i + 2, h =>
    have q : (#[.str x t, .str y u] : Array Value)[i + 2]? = none := by simp
    rw [q] at h
    cases h
section
variable {prog : Program} {w : World} {A : Around} {E : Value → Shared → Prop} {s : Shared}
theorem min_two_strs {a b : Str} {t u : Tok} {Q : Value → Shared → Prop} (hh : A.handled = none)
    (h : ∀ h' tk k, (∀ c o, s.heap.get? c = some o → h'.get? c = some o) → Q (.str (lmin a b) k) { s with heap := h', toks := tk }) :
    wpAny (model prog w) A (call (.builtin "min") [.str a t, .str b u]) Q E s := by
  have hT : (s.heap.push { cls := .type "tuple", data := .seq #[.str a t, .str b u] }).IsTuple s.heap.objs.size #[.str a t, .str b u] := ⟨_, Heap.get?_push_size _ rfl, rfl, 0, rfl⟩
  refine call_min_two (wpAny_pyIter_tuple hT ?_)
  have hsz : (s.heap.push { cls := .type "tuple", data := .seq #[.str a t, .str b u] }).objs.size = s.heap.objs.size + 1 := Heap.size_push ..
  refine ⟨_, [_, s.heap.objs.size], [_], _, _, _, _, rfl, Walks.tuple (A := A.in1) hh _ s.heap.objs.size (by rw [hsz]; exact Nat.ne_of_lt (Nat.lt_succ_self _)) #[.str a t, .str b u],
    ⟨⟨_, Heap.get?_push_size _ rfl, rfl, rfl⟩, hT.push _⟩, fun c hc => ?_, by simp, cmp_lt_strs (txtAt a b) (fun _ _ => two_at), fun v h' tk hP hk => ?_⟩
  · show c < ((s.heap.push _).push _).objs.size
    rw [Heap.size_push, hsz]
    rcases List.mem_cons.mp hc with rfl | hc
    · rw [hsz]; exact Nat.lt_succ_self _
    · rcases List.mem_cons.mp hc with rfl | hc
      · exact Nat.lt_succ_of_lt (Nat.lt_succ_self _)
      · cases hc
  · have hold : ∀ c o, s.heap.get? c = some o → h'.get? c = some o := fun c o e => by
      refine hk c o (fun hm => ?_) (Heap.get?_push_of_some _ (Heap.get?_push_of_some _ e))
      rcases List.mem_cons.mp hm with e1 | hm
      · have := Heap.lt_size e; rw [e1, hsz] at this; exact Nat.lt_irrefl _ (Nat.lt_of_succ_lt this)
      · cases hm
    have hP' : (#[.str a t, .str b u] : Array Value)[argBest (fun i j => decide ((txtAt a b i).cps.toList < (txtAt a b j).cps.toList)) 1]? = some v := hP
    have hv : ∃ k, v = .str (lmin a b) k := by
      by_cases hba : b.cps.toList < a.cps.toList
      · have e : argBest (fun i j => decide ((txtAt a b i).cps.toList < (txtAt a b j).cps.toList)) 1 = 1 := by simp [argBest, txtAt, hba]
        rw [e] at hP'
        refine ⟨u, ?_⟩
        rw [lmin, if_pos hba]
        exact (Option.some.inj hP').symm
      · have e : argBest (fun i j => decide ((txtAt a b i).cps.toList < (txtAt a b j).cps.toList)) 1 = 0 := by simp [argBest, txtAt, hba]
        rw [e] at hP'
        refine ⟨t, ?_⟩
        rw [lmin, if_neg hba]
        exact (Option.some.inj hP').symm
    obtain ⟨k, rfl⟩ := hv
    exact h h' tk k hold
theorem max_two_strs {a b : Str} {t u : Tok} {Q : Value → Shared → Prop} (hh : A.handled = none)
    (h : ∀ h' tk k, (∀ c o, s.heap.get? c = some o → h'.get? c = some o) → Q (.str (lmax a b) k) { s with heap := h', toks := tk }) :
    wpAny (model prog w) A (call (.builtin "max") [.str a t, .str b u]) Q E s := by
  have hT : (s.heap.push { cls := .type "tuple", data := .seq #[.str a t, .str b u] }).IsTuple s.heap.objs.size #[.str a t, .str b u] := ⟨_, Heap.get?_push_size _ rfl, rfl, 0, rfl⟩
  refine call_max_two (wpAny_pyIter_tuple hT ?_)
  have hsz : (s.heap.push { cls := .type "tuple", data := .seq #[.str a t, .str b u] }).objs.size = s.heap.objs.size + 1 := Heap.size_push ..
  refine ⟨_, [_, s.heap.objs.size], [_], _, _, _, _, rfl, Walks.tuple (A := A.in1) hh _ s.heap.objs.size (by rw [hsz]; exact Nat.ne_of_lt (Nat.lt_succ_self _)) #[.str a t, .str b u],
    ⟨⟨_, Heap.get?_push_size _ rfl, rfl, rfl⟩, hT.push _⟩, fun c hc => ?_, by simp, cmp_gt_strs (txtAt a b) (fun _ _ => two_at), fun v h' tk hP hk => ?_⟩
  · show c < ((s.heap.push _).push _).objs.size
    rw [Heap.size_push, hsz]
    rcases List.mem_cons.mp hc with rfl | hc
    · rw [hsz]; exact Nat.lt_succ_self _
    · rcases List.mem_cons.mp hc with rfl | hc
      · exact Nat.lt_succ_of_lt (Nat.lt_succ_self _)
      · cases hc
  · have hold : ∀ c o, s.heap.get? c = some o → h'.get? c = some o := fun c o e => by
      refine hk c o (fun hm => ?_) (Heap.get?_push_of_some _ (Heap.get?_push_of_some _ e))
      rcases List.mem_cons.mp hm with e1 | hm
      · have := Heap.lt_size e; rw [e1, hsz] at this; exact Nat.lt_irrefl _ (Nat.lt_of_succ_lt this)
      · cases hm
    have hP' : (#[.str a t, .str b u] : Array Value)[argBest (fun i j => decide ((txtAt a b j).cps.toList < (txtAt a b i).cps.toList)) 1]? = some v := hP
    have hv : ∃ k, v = .str (lmax a b) k := by
      by_cases hba : a.cps.toList < b.cps.toList
      · have e : argBest (fun i j => decide ((txtAt a b j).cps.toList < (txtAt a b i).cps.toList)) 1 = 1 := by simp [argBest, txtAt, hba]
        rw [e] at hP'
        refine ⟨u, ?_⟩
        rw [lmax, if_pos hba]
        exact (Option.some.inj hP').symm
      · have e : argBest (fun i j => decide ((txtAt a b j).cps.toList < (txtAt a b i).cps.toList)) 1 = 0 := by simp [argBest, txtAt, hba]
        rw [e] at hP'
        refine ⟨t, ?_⟩
        rw [lmax, if_neg hba]
        exact (Option.some.inj hP').symm
    obtain ⟨k, rfl⟩ := hv
    exact h h' tk k hold
end
section
variable {X : Cx}
theorem call_minS (hc : X.calm = true) : CallR X (.builtin "min") (fun xs H Q => ∃ i j, xs = [.str i, .str j] ∧ Q (.str (lmin i j)) H) := by
  intro pins s σ H xs us Q I r h
  obtain ⟨i, j, rfl, q⟩ := h
  obtain ⟨u, w', rfl, ⟨t, rfl⟩, ⟨t', rfl⟩⟩ := vals2 r
  exact min_two_strs (I.ok.hd hc) fun h' tk k kp => ⟨.str _, H, I.kept kp, ⟨_, rfl⟩, q⟩
theorem call_maxS (hc : X.calm = true) : CallR X (.builtin "max") (fun xs H Q => ∃ i j, xs = [.str i, .str j] ∧ Q (.str (lmax i j)) H) := by
  intro pins s σ H xs us Q I r h
  obtain ⟨i, j, rfl, q⟩ := h
  obtain ⟨u, w', rfl, ⟨t, rfl⟩, ⟨t', rfl⟩⟩ := vals2 r
  exact max_two_strs (I.ok.hd hc) fun h' tk k kp => ⟨.str _, H, I.kept kp, ⟨_, rfl⟩, q⟩
end

/-! ### sorted of pairs of texts -/
def encP (b : Addr × Str × Str) : PyData := .tuple [.str b.2.1, .str b.2.2]
def rSortedTT (K : PySem.W.Frag) : List V → Hp → VK → Prop := fun vs H Q => ∃ (a : Addr) (bs : List (Addr × Str × Str)), vs = [V.ref a] ∧ SqL K H a (bs.map fun b => V.ref b.1) ∧ (∀ b ∈ bs, H b.1 = some (.tup [.str b.2.1, .str b.2.2])) ∧
  ∀ p, H p = none → Q (.ref p) (upd H p (.lst ((bs.mergeSort (PySem.W.dataLe false encP)).map fun b => V.ref b.1)))
theorem refs_vals : ∀ {bs : List (Addr × Str × Str)} {its : List Value}, Vals (bs.map fun b => V.ref b.1) its → its = bs.map fun b => Value.ref b.1
  | [], its, h => by cases h; rfl
  | b :: bs, its, h => by
    cases h with
    | cons r t =>
      have e : _ = Value.ref b.1 := r
      rw [e, refs_vals t]
      rfl
theorem vals_refs : ∀ (bs : List (Addr × Str × Str)), Vals (bs.map fun b => V.ref b.1) (bs.map fun b => Value.ref b.1)
  | [] => .nil
  | b :: bs => .cons rfl (vals_refs bs)
theorem each_refs : ∀ (bs : List (Addr × Str × Str)), PySem.W.EachIs (fun v b => v = Value.ref b.1) (bs.map fun b => Value.ref b.1) bs
  | [] => .nil
  | b :: bs => .cons rfl (each_refs bs)
theorem of_each : ∀ {bs : List (Addr × Str × Str)} {out : List Value}, PySem.W.EachIs (fun v b => v = Value.ref b.1) out bs → out = bs.map fun b => Value.ref b.1
  | _, _, .nil => rfl
  | _, _, .cons e t => by rw [e, of_each t]; rfl
theorem each_of {R : Value → Addr × Str × Str → Prop} : ∀ {bs : List (Addr × Str × Str)}, (∀ b ∈ bs, R (Value.ref b.1) b) → PySem.W.EachIs R (bs.map fun b => Value.ref b.1) bs
  | [], _ => .nil
  | b :: bs, h => .cons (h b List.mem_cons_self) (each_of fun c hc => h c (List.mem_cons_of_mem _ hc))
section
variable {X : Cx}
theorem cr_sortedTT (hu : X.A.units + 64 < cLine) : CallR X (.builtin "sorted") (rSortedTT X.K) := by
  intro pins s σ H vs us Q I r h
  obtain ⟨a, bs, rfl, hs, hb, q⟩ := h
  obtain ⟨its, rv, hl, hz⟩ := I.list hs
  rw [Vals.ref1 r]
  have hi := refs_vals rv
  subst hi
  have hlen : bs.length ≤ sizeLine := by rw [List.length_map] at hz; exact hz
  refine PySem.W.sorted_data (R := fun v b => v = Value.ref b.1) (bs := bs) (enc := encP) hl.isList (each_refs bs) (each_of fun b hm => ?_) (PySem.W.AllAlike.of fun b b' => ?_) (PySem.W.Sortable.tuples fun b => ⟨_, _, rfl⟩) hlen (fun b _ => ?_) fun out ho he => ?_
  · obtain ⟨_, its2, r2, o, hob, hc, n, hd⟩ := I.hok _ _ (hb b hm)
    obtain ⟨u1, u2, rfl, ⟨t1, rfl⟩, ⟨t2, rfl⟩⟩ := vals2 r2
    exact ⟨_, Reads.tuple hob hc hd (.cons (Reads.str _ _) (.cons (Reads.str _ _) .nil))⟩
  · simp [encP, PySem.W.alike, PySem.W.alikeAll]
  · have : (encP b).depth = 1 := by simp [encP, PyData.depth, PyData.depthAll]
    omega
  · have eo := of_each he
    subst eo
    obtain ⟨ep, he'⟩ := PyProof.Rows.sortedAll_at s.heap (bs.map fun b => Value.ref b.1) ((bs.mergeSort (PySem.W.dataLe false encP)).map fun b => Value.ref b.1).toArray
    have hlen2 : ((bs.mergeSort (PySem.W.dataLe false encP)).map fun b => V.ref b.1).length ≤ sizeLine := by rw [List.length_map, List.length_mergeSort]; exact hlen
    exact ⟨.ref _, upd H (s.heap.objs.size + 1) (.lst ((bs.mergeSort (PySem.W.dataLe false encP)).map fun b => V.ref b.1)), I.laid (t' := s.toks) (fun _ _ => PyProof.Rows.sortedAll_old) (Nat.le_succ _) ⟨hlen2, _, ep, vals_refs _, he'⟩, rfl, q _ (I.hok.fresh (Nat.le_succ _))⟩
end
end Lk
set_option maxRecDepth 100000
set_option maxHeartbeats 4000000
namespace Lk
open PySem PySem.Spec PyProof.Rows L2

/-! ### heaps -/
theorem same_upd {H : Hp} {p : Addr} {o : HO} (h : H p = none) : Same H (upd H p o) := fun b x e => by
  rw [upd_ne (ne_of_none e h)]
  exact e
/-- all but what stands at b is as it was -/
def Oth (b : Addr) (H H' : Hp) : Prop := ∀ a o, a ≠ b → H a = some o → H' a = some o
theorem Oth.refl (b : Addr) (H : Hp) : Oth b H H := fun _ _ _ h => h
theorem Oth.trans {b : Addr} {H H1 H2 : Hp} (x : Oth b H H1) (y : Oth b H1 H2) : Oth b H H2 := fun a o n h => y a o n (x a o n h)
theorem Oth.of {b : Addr} {H H' : Hp} (x : Same H H') : Oth b H H' := fun a o _ h => x a o h
theorem Oth.upd {b : Addr} {H : Hp} {o : HO} : Oth b H (upd H b o) := fun a u n h => by rw [upd_ne n]; exact h
theorem Oth.free {b p : Addr} {H H' : Hp} (x : Oth b H H') (hb : p ≠ b) (h : H' p = none) : H p = none := by
  cases q : H p with
  | none => rfl
  | some o =>
    rw [x p o hb q] at h
    cases h
def IsBox (H : Hp) (b : Addr) : Prop := ∃ x y z : Int, H b = some (.lst [.int x, .int y, .int z])
theorem IsBox.same {H H' : Hp} {b : Addr} (x : Same H H') (h : IsBox H b) : IsBox H' b := by
  obtain ⟨i, j, k, e⟩ := h
  exact ⟨i, j, k, x _ _ e⟩
theorem IsBox.ne_tup {H : Hp} {b t : Addr} {xs : List V} (h : IsBox H b) (ht : H t = some (.tup xs)) : t ≠ b := by
  obtain ⟨i, j, k, e⟩ := h
  exact ne_of ht e (fun z => nomatch z)
theorem IsBox.ne_dT {H : Hp} {b t : Addr} {xs : List (List Key × V)} (h : IsBox H b) (ht : H t = some (.dT xs)) : t ≠ b := by
  obtain ⟨i, j, k, e⟩ := h
  exact ne_of ht e (fun z => nomatch z)
theorem IsBox.ne_strs {H : Hp} {b t : Addr} {xs : List Str} (h : IsBox H b) (ht : H t = some (.lst (xs.map V.str))) : t ≠ b := by
  obtain ⟨i, j, k, e⟩ := h
  refine ne_of ht e (fun z => ?_)
  match xs, z with
  | [], z => cases z
  | x :: r, z => cases z
theorem IsBox.ne_refs {H : Hp} {b t : Addr} {xs : List Addr} (h : IsBox H b) (ht : H t = some (.lst (xs.map V.ref))) : t ≠ b := by
  obtain ⟨i, j, k, e⟩ := h
  refine ne_of ht e (fun z => ?_)
  match xs, z with
  | [], z => cases z
  | x :: r, z => cases z
theorem IsBox.ne_none {H : Hp} {b p : Addr} (h : IsBox H b) (hp : H p = none) : p ≠ b := by
  obtain ⟨i, j, k, e⟩ := h
  exact (ne_of_none e hp).symm
theorem small9 {n : Nat} (h : n ≤ 9000) : n < sizeLine := Nat.lt_of_le_of_lt h (by decide)
theorem small_le {n : Nat} (h : n ≤ 1000) : n ≤ sizeLine := Nat.le_of_lt (small1000 h)

/-! ### slices -/
def cutL {α : Type} (xs : List α) (lo hi : Option Int) : List α := (xs.drop (HT.sIx xs.length 0 lo)).take (HT.sIx xs.length xs.length hi - HT.sIx xs.length 0 lo)
theorem cutV_map {α : Type} (f : α → V) (xs : List α) (lo hi : Option Int) : cutV (xs.map f) lo hi = (cutL xs lo hi).map f := by
  unfold cutV cutL
  rw [List.length_map, List.map_take, List.map_drop]
theorem cutL_to {α : Type} (xs : List α) (k : Nat) : cutL xs none (some (k : Int)) = xs.take k := by
  unfold cutL
  rw [HT.sIx_none, HT.sIx_nat, List.drop_zero, Nat.sub_zero]
  by_cases h : k ≤ xs.length
  · rw [Nat.min_eq_left h]
  · rw [Nat.min_eq_right (by omega), List.take_of_length_le (Nat.le_refl _), List.take_of_length_le (by omega)]
theorem cutL_from {α : Type} (xs : List α) (k : Nat) : cutL xs (some (k : Int)) none = xs.drop k := by
  unfold cutL
  rw [HT.sIx_none, HT.sIx_nat]
  by_cases h : k ≤ xs.length
  · rw [Nat.min_eq_left h, List.take_of_length_le (by rw [List.length_drop]; exact Nat.le_refl _)]
  · rw [Nat.min_eq_right (by omega), List.drop_length, List.drop_eq_nil_of_le (by omega), List.take_nil]
theorem cutL_le {α : Type} (xs : List α) (lo hi : Option Int) : (cutL xs lo hi).length ≤ xs.length := by
  unfold cutL
  rw [List.length_take, List.length_drop]
  omega
theorem cutL_has {α : Type} {xs : List α} {k : Nat} {hi : Option Int} (h : 0 < (cutL xs (some (k : Int)) hi).length) : k < xs.length := by
  unfold cutL at h
  rw [List.length_take, List.length_drop, HT.sIx_nat] at h
  omega
theorem at_map {α : Type} {f : α → V} {xs : List α} {i : Nat} {x : V} (h : (xs.map f)[i]? = some x) : ∃ y, xs[i]? = some y ∧ x = f y := by
  rw [List.getElem?_map] at h
  cases e : xs[i]? with
  | none => rw [e] at h; cases h
  | some y =>
    rw [e] at h
    exact ⟨y, rfl, (Option.some.inj h).symm⟩
theorem ix_map {α : Type} {f : α → V} {xs : List α} {i : Nat} {y : α} (h : xs[i]? = some y) : (xs.map f)[i]? = some (f y) := by
  rw [List.getElem?_map, h]
  rfl
theorem set_map {α : Type} {f : α → V} {xs : List α} {i : Nat} {y : α} : (xs.map f).set i (f y) = (xs.set i y).map f := by
  rw [List.map_set]

theorem bit01 (k : Bool) : -(2 ^ 64) < (if k = true then 1 else 0 : Int) ∧ (if k = true then 1 else 0 : Int) < 2 ^ 64 := by cases k <;> decide
theorem bit2 (k : Bool) : (0 : Int) ≤ (if k = true then 1 else 0 : Int) ∧ (if k = true then 1 else 0 : Int) ≤ 1 := by cases k <;> decide

/-! ### names of the built-in -/
structure Blt (mg : Str → Option Value) : Prop where
  len : mg "len" = none
  abs : mg "abs" = none
  int : mg "int" = none
  list : mg "list" = none
  tuple : mg "tuple" = none
  enumerate : mg "enumerate" = none
  range : mg "range" = none
  min : mg "min" = none
  max : mg "max" = none
  sorted : mg "sorted" = none
  isinstance : mg "isinstance" = none
  zip : mg "zip" = none
  all : mg "all" = none
  str : mg "str" = none
  bool : mg "bool" = none
  any : mg "any" = none
  repr : mg "repr" = none
  set : mg "set" = none
  sum : mg "sum" = none
  reversed : mg "reversed" = none
  dict : mg "dict" = none

/-! ### a def as its callers know it -/
structure Cal (P : Program) (w : World) (K : PySem.W.Frag) (mg : Str → Option Value) (base : Heap) (k : Nat) (x : Str) (ps : List Str) (sp : Sp) : Prop where
  ex : ∃ f fd, FnOk P w K mg base CX0 k f fd ps sp ∧ mg x = some (.ref f) ∧ PySem.W.keepIn K (.ref f) = true ∧ Binds K fd ps []
theorem Cal.mono {P : Program} {w : World} {K : PySem.W.Frag} {mg : Str → Option Value} {base : Heap} {j k : Nat} {x : Str} {ps : List Str} {sp : Sp} (C : Cal P w K mg base j x ps sp) (h : j ≤ k := by first | decide | omega) : Cal P w K mg base k x ps sp := by
  obtain ⟨f, fd, F, r⟩ := C.ex
  exact ⟨f, fd, F.mono h, r⟩
section
variable {X : Cx} {k n : Nat} {x : Str} {ps : List Str} {sp : Sp} {p pos : Pos} {e : Expr} {es : List Expr} {t : TA}
theorem pe_cal (C : Cal X.prog X.w X.K X.mg X.base k x ps sp) (hr : Room n X.A) (ha : PA X (e :: es) t) (hle : k ≤ n := by first | decide | omega) (hg : Gl X x := by rfl) (hdb : (x == ("__debug__" : Str)) = false := by decide)
    (he : starEach (e :: es) X.env = (false, eval e X.env) :: starEach es X.env := by rfl) (hpl : (backTo pos (starEach es X.env)).any (·.1) = false := by rfl) :
    PE X (.Call (.Name x p) (e :: es) [] pos) (tCall sp [] E0 t) := by
  obtain ⟨f, fd, F, hm, hk, hb⟩ := C.ex
  exact pe_call F (hr.mono hle) hg hm hk hb .nil pass0 ha (hdb := hdb) (he := he) (hpl := hpl)
end

/-! ### drawing -/
def spTake : Sp := fun vs H Q _ => ∃ (b : Addr) (many : Int), vs = [.ref b, .int many] ∧ IsBox H b ∧ 0 < many ∧ many < 1073741824 ∧
  ∀ (v : Int) (H' : Hp), Oth b H H' → IsBox H' b → 0 ≤ v → v < many → Q (.int v) H'
def spBox : Sp := fun vs H Q _ => ∃ (a : Addr) (ns : List Int) (k : Nat), vs = [.ref a, .int k] ∧ H a = some (.lst (ns.map V.int)) ∧ k < ns.length ∧ k < 1000 ∧
  ∀ (b : Addr) (H' : Hp), Same H H' → H b = none → IsBox H' b → Q (.ref b) H'
def spCells (K : PySem.W.Frag) : Sp := fun vs H Q _ => ∃ (a : Addr) (ns : List Int) (u : Nat), vs = [.ref a, .int u] ∧ SqL K H a (ns.map V.int) ∧ ns.length ≤ 63 ∧ 0 < u ∧ u ≤ 3 ∧
  ∀ (c : Addr) (ms : List Int) (H' : Hp), Same H H' → H c = none → H' c = some (.lst (ms.map V.int)) → 0 < ms.length → ms.length ≤ 3 → Q (.ref c) H'
end Lk
set_option maxRecDepth 100000
set_option maxHeartbeats 4000000
namespace Lk
open PySem PySem.Spec PyProof.Rows L2

/-! ### texts and names -/
abbrev tlx (x : Str) : List Nat := x.cps.toList
theorem len_tlx (x : Str) : x.length = (tlx x).length := by
  show x.cps.size = x.cps.toList.length
  rw [Array.length_toList]
theorem tlx_app (x y : Str) : tlx (x ++ y) = tlx x ++ tlx y := by
  show (x.cps ++ y.cps).toList = _
  rw [Array.toList_append]
theorem str_ext {x y : Str} (h : tlx x = tlx y) : x = y := by
  obtain ⟨a⟩ := x
  obtain ⟨b⟩ := y
  have e : a = b := Array.toList_inj.mp h
  rw [e]
def Low (l : List Nat) : Prop := ∀ c ∈ l, 97 ≤ c ∧ c ≤ 122
def NameOk (x : Str) : Prop := 1 ≤ (tlx x).length ∧ (tlx x).length ≤ 8 ∧ Low (tlx x)
theorem NameOk.len {x : Str} (h : NameOk x) : x.length ≤ 8 := by rw [len_tlx]; exact h.2.1
def Good (x : Str) : Prop := PyData.strOk x = true
def Goods (xs : List Str) : Prop := ∀ x ∈ xs, Good x
theorem NameOk.good {x : Str} (h : NameOk x) : Good x := by
  show x.cps.all (· < 0x110000) = true
  rw [← Array.all_toList, List.all_eq_true]
  intro c hc
  have q := h.2.2 c hc
  exact decide_eq_true (by omega)
theorem lmin_good {x y : Str} (hx : Good x) (hy : Good y) : Good (lmin x y) := by
  unfold lmin
  split
  · exact hy
  · exact hx
theorem lmax_good {x y : Str} (hx : Good x) (hy : Good y) : Good (lmax x y) := by
  unfold lmax
  split
  · exact hy
  · exact hx
def abc : Str := "abcdefghijklmnopqrstuvwxyz"
theorem abc_at : ∀ i : Nat, i < 26 → (tlx abc)[i]? = some (97 + i) := by decide +kernel
theorem abc_len : abc.length = 26 := by decide +kernel
theorem abc_ix {i : Int} (h0 : 0 ≤ i) (h1 : i < 26) : atI (tlx abc) i = some (97 + i.toNat) := by
  have e : i = ((i.toNat : Nat) : Int) := by omega
  have q := atI_nat (abc_at i.toNat (by omega))
  rw [← e] at q
  exact q
theorem Low.one {n : Nat} (h : n < 26) : Low [97 + n] := fun c hc => by
  have e : c = 97 + n := by simpa using hc
  omega
theorem join0 : ∀ ys : List Str, tlx (Txt.join ("" : Str) ys) = (ys.map tlx).flatten := by
  intro ys
  rw [TL.join_eq]
  refine (TL.tl_join _ _).trans ?_
  have e : TL.tl ("" : Str) = [] := by decide +kernel
  rw [e]
  have g : ∀ l : List (List Nat), TL.joinL [] l = l.flatten := by
    intro l
    induction l with
    | nil => rfl
    | cons a r ih =>
      cases r with
      | nil => simp [TL.joinL]
      | cons b r =>
        show a ++ ([] ++ TL.joinL [] (b :: r)) = _
        rw [ih]
        simp
  exact g (ys.map TL.tl)
def IsOne (x : Str) : Prop := ∃ n : Nat, n < 26 ∧ x = ⟨#[97 + n]⟩
theorem ones_flat : ∀ {ys : List Str}, (∀ y ∈ ys, IsOne y) → ((ys.map tlx).flatten).length = ys.length ∧ Low (ys.map tlx).flatten
  | [], _ => ⟨rfl, fun _ h => nomatch h⟩
  | y :: r, h => by
    obtain ⟨e1, e2⟩ := ones_flat (ys := r) fun z hz => h z (List.mem_cons_of_mem _ hz)
    obtain ⟨n, hn, rfl⟩ := h y List.mem_cons_self
    constructor
    · rw [List.map_cons, List.flatten_cons, List.length_append, e1]
      simp
      omega
    · rw [List.map_cons, List.flatten_cons]
      intro c hc
      rcases List.mem_append.mp hc with q | q
      · have e : c = 97 + n := by simpa using q
        omega
      · exact e2 c q
theorem ones_len : ∀ {ys : List Str}, (∀ y ∈ ys, IsOne y) → (ys.map (·.length)).sum = ys.length
  | [], _ => rfl
  | y :: r, h => by
    have ih := ones_len (ys := r) fun z hz => h z (List.mem_cons_of_mem _ hz)
    obtain ⟨n, hn, rfl⟩ := h y List.mem_cons_self
    rw [List.map_cons, List.sum_cons, ih, List.length_cons]
    show 1 + r.length = _
    omega
theorem cutS_tlx (z : Str) (lo hi : Option Int) : tlx (cutS z lo hi) = cutL (tlx z) lo hi := by
  unfold cutS cutL
  show (List.toArray _).toList = _
  rw [List.toList_toArray, len_tlx]
theorem Low.cut {l : List Nat} {lo hi : Option Int} (h : Low l) : Low (cutL l lo hi) := fun c hc => h c (List.mem_of_mem_drop (List.mem_of_mem_take hc))
theorem Low.app {l m : List Nat} (h : Low l) (h' : Low m) : Low (l ++ m) := fun c hc => (List.mem_append.mp hc).elim (h c) (h' c)
theorem apart {step : Int} (hs : step = 1 ∨ step = 3 ∨ step = 7 ∨ step = 25) {i j : Nat} (h : j < i) (hi : i < 26) (f : Int) : (f + step * (i : Int)) % 26 ≠ (f + step * (j : Int)) % 26 := by
  rcases hs with rfl | rfl | rfl | rfl <;> omega
/-- a text's last sign -/
def lastC (x : Str) : Option Nat := (tlx x).getLast?
theorem lastC_app (x : Str) (n : Nat) : lastC (x ++ ⟨#[n]⟩) = some n := by
  unfold lastC
  rw [tlx_app]
  simp
theorem ins_perm {α : Type} (l : List α) (p : Nat) (x : α) : (l.take p ++ [x] ++ l.drop p).Perm (x :: l) := by
  have e : l.take p ++ [x] ++ l.drop p = l.take p ++ x :: l.drop p := by simp
  rw [e]
  refine List.perm_middle.trans ?_
  rw [List.take_append_drop]
theorem ins_map {α : Type} (f : α → V) (l : List α) (p : Nat) (x : α) : (l.map f).take p ++ [f x] ++ (l.map f).drop p = (l.take p ++ [x] ++ l.drop p).map f := by
  rw [List.map_append, List.map_append, List.map_take, List.map_drop]
  rfl

/-! ### the order of texts -/
theorem lmin_or (x y : Str) : (lmin x y = x ∧ lmax x y = y) ∨ (lmin x y = y ∧ lmax x y = x) := by
  unfold lmin lmax
  by_cases h : y.cps.toList < x.cps.toList
  · rw [if_pos h, if_neg (List.lt_asymm h)]
    exact .inr ⟨rfl, rfl⟩
  · rw [if_neg h]
    by_cases h2 : x.cps.toList < y.cps.toList
    · rw [if_pos h2]
      exact .inl ⟨rfl, rfl⟩
    · rw [if_neg h2]
      have e : x = y := str_ext (List.le_antisymm h h2)
      subst e
      exact .inl ⟨rfl, rfl⟩
theorem lpair_comm (x y : Str) : (lmin x y, lmax x y) = (lmin y x, lmax y x) := by
  unfold lmin lmax
  by_cases h : y.cps.toList < x.cps.toList
  · rw [if_pos h, if_neg (List.lt_asymm h), if_neg (List.lt_asymm h), if_pos h]
  · by_cases h2 : x.cps.toList < y.cps.toList
    · rw [if_neg h, if_pos h2, if_pos h2, if_neg h]
    · have e : x = y := str_ext (List.le_antisymm h h2)
      subst e
      rfl
/-- friends, as a law has them: each pair a least and a greatest -/
def PalsOk (ps : List (Str × Str)) : Prop := ∀ p ∈ ps, ∃ m q, Good m ∧ Good q ∧ p = (lmin m q, lmax m q)
def frd (ps : List (Str × Str)) (a b : Str) : Bool := decide ((a, b) ∈ ps ∨ (b, a) ∈ ps)
theorem frd_comm (ps : List (Str × Str)) (a b : Str) : frd ps a b = frd ps b a := by
  unfold frd
  exact decide_eq_decide.mpr Or.comm
theorem frd_pair {ps : List (Str × Str)} (h : PalsOk ps) (a b : Str) : decide ((lmin a b, lmax a b) ∈ ps) = frd ps a b := by
  unfold frd
  refine decide_eq_decide.mpr ⟨fun q => ?_, fun q => ?_⟩
  · rcases lmin_or a b with ⟨e1, e2⟩ | ⟨e1, e2⟩
    · rw [e1, e2] at q; exact .inl q
    · rw [e1, e2] at q; exact .inr q
  · rcases q with q | q
    · obtain ⟨m, n, _, _, e⟩ := h _ q
      have e1 : a = lmin m n := (Prod.mk.inj e).1
      have e2 : b = lmax m n := (Prod.mk.inj e).2
      rcases lmin_or m n with ⟨f1, f2⟩ | ⟨f1, f2⟩
      · rw [f1] at e1; rw [f2] at e2; subst e1 e2; rw [← e]; exact q
      · rw [f1] at e1; rw [f2] at e2; subst e1 e2; rw [lpair_comm, ← e]; exact q
    · obtain ⟨m, n, _, _, e⟩ := h _ q
      have e1 : b = lmin m n := (Prod.mk.inj e).1
      have e2 : a = lmax m n := (Prod.mk.inj e).2
      rcases lmin_or m n with ⟨f1, f2⟩ | ⟨f1, f2⟩
      · rw [f1] at e1; rw [f2] at e2; subst e1 e2; rw [lpair_comm, ← e]; exact q
      · rw [f1] at e1; rw [f2] at e2; subst e1 e2; rw [← e]; exact q

theorem menu4 {v : Int} (h0 : 0 ≤ v) (h1 : v < 4) : ∃ step : Int, (step = 1 ∨ step = 3 ∨ step = 7 ∨ step = 25) ∧ atI [V.int 1, V.int 3, V.int 7, V.int 25] v = some (.int step) := by
  have e : v = 0 ∨ v = 1 ∨ v = 2 ∨ v = 3 := by omega
  rcases e with rfl | rfl | rfl | rfl
  · exact ⟨1, by simp, rfl⟩
  · exact ⟨3, by simp, rfl⟩
  · exact ⟨7, by simp, rfl⟩
  · exact ⟨25, by simp, rfl⟩
theorem name_ok {stem : Str} {hi : Option Int} {n : Nat} (h1 : (tlx stem).length ≤ 7) (h2 : Low (tlx stem)) (hn : n < 26) : NameOk (cutS stem none hi ++ ⟨#[97 + n]⟩) := by
  have e : tlx (cutS stem none hi ++ ⟨#[97 + n]⟩) = cutL (tlx stem) none hi ++ [97 + n] := by rw [tlx_app, cutS_tlx]
  have q := cutL_le (tlx stem) none hi
  refine ⟨?_, ?_, ?_⟩
  · rw [e]; simp
  · rw [e, List.length_append, List.length_singleton]; omega
  · rw [e]; exact (Low.cut h2).app (Low.one hn)

/-! ### friends as they stand -/
abbrev B3 := Addr × Str × Str
def refs (bs : List B3) : List V := bs.map fun b => V.ref b.1
def PairsAt (H : Hp) (bs : List B3) : Prop := ∀ b ∈ bs, H b.1 = some (.tup [.str b.2.1, .str b.2.2])
theorem PairsAt.same {H H' : Hp} {bs : List B3} (s : Same H H') (h : PairsAt H bs) : PairsAt H' bs := fun b hb => s _ _ (h b hb)
theorem PairsAt.oth {H H' : Hp} {b : Addr} {bs : List B3} (s : Oth b H H') (hb : IsBox H b) (h : PairsAt H bs) : PairsAt H' bs := fun c hc => s _ _ (hb.ne_tup (h c hc)) (h c hc)
/-- FRIENDS as a tuple -/
def PalsAt (H : Hp) (a : Addr) (ps : List (Str × Str)) : Prop := ∃ bs : List B3, H a = some (.tup (refs bs)) ∧ PairsAt H bs ∧ ps = bs.map (·.2)
theorem PalsAt.same {H H' : Hp} {a : Addr} {ps : List (Str × Str)} (s : Same H H') (h : PalsAt H a ps) : PalsAt H' a ps := by
  obtain ⟨bs, h1, h2, h3⟩ := h
  exact ⟨bs, s _ _ h1, h2.same s, h3⟩
theorem PalsAt.oth {H H' : Hp} {a b : Addr} {ps : List (Str × Str)} (s : Oth b H H') (hb : IsBox H b) (h : PalsAt H a ps) : PalsAt H' a ps := by
  obtain ⟨bs, h1, h2, h3⟩ := h
  exact ⟨bs, s _ _ (hb.ne_tup h1) h1, h2.oth s hb, h3⟩
/-- .. or a list of these -/
def FrAt (H : Hp) (a : Addr) (ps : List (Str × Str)) : Prop := ∃ bs : List B3, (H a = some (.tup (refs bs)) ∨ H a = some (.lst (refs bs))) ∧ PairsAt H bs ∧ ps = bs.map (·.2)
theorem PalsAt.fr {H : Hp} {a : Addr} {ps : List (Str × Str)} (h : PalsAt H a ps) : FrAt H a ps := by
  obtain ⟨bs, h1, h2, h3⟩ := h
  exact ⟨bs, .inl h1, h2, h3⟩
theorem FrAt.same {H H' : Hp} {a : Addr} {ps : List (Str × Str)} (s : Same H H') (h : FrAt H a ps) : FrAt H' a ps := by
  obtain ⟨bs, h1, h2, h3⟩ := h
  exact ⟨bs, h1.elim (fun e => .inl (s _ _ e)) (fun e => .inr (s _ _ e)), h2.same s, h3⟩
/-- what _law_pals tells of a pair -/
def OfPool (pool : List Str) (ps : List (Str × Str)) : Prop := ∀ p ∈ ps, ∃ m q, m ∈ pool ∧ q ∈ pool ∧ m ≠ q ∧ p = (lmin m q, lmax m q)
theorem OfPool.ok {pool : List Str} {ps : List (Str × Str)} (h : OfPool pool ps) (hg : Goods pool) : PalsOk ps := fun p hp => by
  obtain ⟨m, q, h1, h2, _, e⟩ := h p hp
  exact ⟨m, q, hg m h1, hg q h2, e⟩
theorem OfPool.irr {pool : List Str} {ps : List (Str × Str)} (h : OfPool pool ps) (x : Str) : frd ps x x = false := by
  unfold frd
  refine decide_eq_false fun z => ?_
  have z' : (x, x) ∈ ps := z.elim id id
  obtain ⟨m, q, _, _, ne, e⟩ := h _ z'
  have e1 := (Prod.mk.inj e).1
  have e2 := (Prod.mk.inj e).2
  rcases lmin_or m q with ⟨f1, f2⟩ | ⟨f1, f2⟩
  · exact ne ((f1.symm.trans e1.symm).trans (e2.trans f2))
  · exact ne ((f2.symm.trans e2.symm).trans (e1.trans f1))
def PGood (ps : List (Str × Str)) : Prop := ∀ p ∈ ps, Good p.1 ∧ Good p.2
theorem PalsOk.good {ps : List (Str × Str)} (h : PalsOk ps) : PGood ps := fun p hp => by
  obtain ⟨m, q, h1, h2, e⟩ := h p hp
  rw [e]
  exact ⟨lmin_good h1 h2, lmax_good h1 h2⟩
def spPals : Sp := fun vs H Q _ => ∃ (b l : Addr) (pool : List Str), vs = [.ref b, .ref l] ∧ IsBox H b ∧ H l = some (.lst (pool.map V.str)) ∧ pool.Nodup ∧ pool.length ≤ 26 ∧
  ∀ (a : Addr) (bs : List B3) (H' : Hp), Oth b H H' → IsBox H' b → H a = none → H' a = some (.tup (refs bs)) → PairsAt H' bs → OfPool pool (bs.map (·.2)) → bs.length ≤ 1000 → (∃ cs : List B3, bs = cs.mergeSort (PySem.W.dataLe false encP)) → Q (.ref a) H'

def spNames : Sp := fun vs H Q _ => ∃ (b : Addr) (many : Nat), vs = [.ref b, .int many] ∧ IsBox H b ∧ many ≤ 26 ∧
  ∀ (l : Addr) (names : List Str) (H' : Hp), Oth b H H' → IsBox H' b → H l = none → H' l = some (.lst (names.map V.str)) → names.length = many → names.Nodup → (∀ x ∈ names, NameOk x) → Q (.ref l) H'
end Lk
set_option maxRecDepth 100000
set_option maxHeartbeats 4000000
namespace Lk
open PySem PySem.Spec PyProof.Rows L2
theorem u65 {k : Nat} {A : Around} (r : Room k A) : A.units + 65 < cLine := by have := r.un; omega

/-! ### data -/
def encQ (p : Str × Str) : PyData := .tuple [.str p.1, .str p.2]
theorem eqv_strs : ∀ xs ys : List Str, PyData.eqvAll (xs.map .str) (ys.map .str) = decide (xs = ys)
  | [], [] => by simp [PyData.eqvAll]
  | [], _ :: _ => by simp [PyData.eqvAll]
  | _ :: _, [] => by simp [PyData.eqvAll]
  | x :: xs, y :: ys => by
    rw [List.map_cons, List.map_cons, PyData.eqvAll, eqv_strs xs ys]
    by_cases h : x = y
    · subst h
      simp [PyData.eqv]
    · simp [PyData.eqv, h]
theorem eqv_pair (p q : Str × Str) : PyData.eqv (encQ p) (encQ q) = decide (p = q) := by
  obtain ⟨a, b⟩ := p
  obtain ⟨c, d⟩ := q
  have e := eqv_strs [a, b] [c, d]
  have e2 : PyData.eqv (encQ (a, b)) (encQ (c, d)) = PyData.eqvAll ([a, b].map .str) ([c, d].map .str) := by simp [encQ, PyData.eqv]
  rw [e2, e]
  refine decide_eq_decide.mpr ?_
  simp
theorem lay_strs : ∀ {xs : List Str}, Goods xs → PyData.canLayAll0 (xs.map .str) = true
  | [], _ => by simp [PyData.canLayAll0]
  | x :: xs, h => by
    have h1 : PyData.strOk x = true := h x List.mem_cons_self
    simp [PyData.canLayAll0, PyData.canLay0, h1, lay_strs (xs := xs) fun y hy => h y (List.mem_cons_of_mem _ hy)]
theorem dep_strs : ∀ xs : List Str, PyData.depthAll (xs.map .str) = 0
  | [] => by simp [PyData.depthAll]
  | x :: xs => by simp [PyData.depthAll, PyData.depth, dep_strs xs]
theorem sh_list {xs : List Str} (h : Goods xs) : SeqAt.shaped (.list (xs.map .str)) = true := by
  show (PyData.canLay0 (.list (xs.map .str)) && decide (PyData.depth (.list (xs.map .str)) ≤ 64)) = true
  simp [PyData.canLay0, PyData.depth, lay_strs h, dep_strs]
theorem sh_tuple {xs : List Str} (h : Goods xs) : SeqAt.shaped (.tuple (xs.map .str)) = true := by
  show (PyData.canLay0 (.tuple (xs.map .str)) && decide (PyData.depth (.tuple (xs.map .str)) ≤ 64)) = true
  simp [PyData.canLay0, PyData.depth, lay_strs h, dep_strs]
theorem lay_pairs : ∀ {ps : List (Str × Str)}, PGood ps → PyData.canLayAll0 (ps.map encQ) = true
  | [], _ => by simp [PyData.canLayAll0]
  | p :: ps, h => by
    have h1 : PyData.strOk p.1 = true := (h p List.mem_cons_self).1
    have h2 : PyData.strOk p.2 = true := (h p List.mem_cons_self).2
    simp [PyData.canLayAll0, PyData.canLay0, encQ, h1, h2, lay_pairs (ps := ps) fun y hy => h y (List.mem_cons_of_mem _ hy)]
theorem dep_pairs : ∀ ps : List (Str × Str), PyData.depthAll (ps.map encQ) ≤ 1
  | [] => by simp [PyData.depthAll]
  | p :: ps => by
    have := dep_pairs ps
    simp only [List.map_cons, PyData.depthAll, encQ, PyData.depth]
    omega
theorem sh_pals {ps : List (Str × Str)} (h : PGood ps) : SeqAt.shaped (.tuple (ps.map encQ)) = true := by
  show (PyData.canLay0 (.tuple (ps.map encQ)) && decide (PyData.depth (.tuple (ps.map encQ)) ≤ 64)) = true
  have := dep_pairs ps
  have e : PyData.depth (.tuple (ps.map encQ)) ≤ 64 := by
    simp only [PyData.depth]
    omega
  rw [decide_eq_true e, Bool.and_true]
  simp only [PyData.canLay0]
  exact lay_pairs h
theorem goods2 {x y : Str} (hx : Good x) (hy : Good y) : Goods [x, y] := fun z hz => by
  rcases List.mem_cons.mp hz with rfl | hz
  · exact hx
  · have e : z = y := by simpa using hz
    rw [e]
    exact hy
theorem sh_pair {p : Str × Str} (h : Good p.1 ∧ Good p.2) : SeqAt.shaped (encQ p) = true := sh_tuple (xs := [p.1, p.2]) (goods2 h.1 h.2)
section
variable {K : PySem.W.Frag} {H : Hp}
theorem dp_strs : ∀ xs : List Str, DpAll K H (xs.map V.str) (xs.map .str)
  | [] => .nil
  | x :: xs => .cons (.str x) (dp_strs xs)
theorem dp_list {a : Addr} {xs : List Str} (h : H a = some (.lst (xs.map V.str))) : Dp K H (.ref a) (.list (xs.map .str)) := .lst (.inl (.inl h)) (dp_strs xs)
theorem dp_tuple {a : Addr} {xs : List Str} (h : H a = some (.tup (xs.map V.str))) : Dp K H (.ref a) (.tuple (xs.map .str)) := .tup (.inl (.inl h)) (dp_strs xs)
theorem dp_pairs : ∀ {bs : List B3}, PairsAt H bs → DpAll K H (refs bs) ((bs.map (·.2)).map encQ)
  | [], _ => .nil
  | b :: bs, h => .cons (dp_tuple (xs := [b.2.1, b.2.2]) (h b List.mem_cons_self)) (dp_pairs (bs := bs) fun c hc => h c (List.mem_cons_of_mem _ hc))
theorem dp_pals {a : Addr} {ps : List (Str × Str)} (h : PalsAt H a ps) : Dp K H (.ref a) (.tuple (ps.map encQ)) := by
  obtain ⟨bs, h1, h2, rfl⟩ := h
  exact .tup (.inl (.inl h1)) (dp_pairs h2)
end
theorem any_pair (ps : List (Str × Str)) (p : Str × Str) : ((ps.map encQ).any fun z => PyData.eqv z (encQ p)) = decide (p ∈ ps) := by
  rw [List.any_map]
  induction ps with
  | nil => rfl
  | cons q r ih =>
    rw [List.any_cons, ih]
    show (PyData.eqv (encQ q) (encQ p) || _) = _
    rw [eqv_pair]
    by_cases h : q = p
    · subst h
      simp
    · have h' : ¬ p = q := fun z => h z.symm
      simp [h, h']

/-! ### tuples whose object is known to have no dict: their methods may be called -/
def TupAt (H : Hp) (t : Addr) (xs : List V) : Prop := ∃ o : Obj, o.dict = none ∧ H t = some (.frz o (.tup xs))
theorem TupAt.same {H H' : Hp} {t : Addr} {xs : List V} (s : Same H H') (h : TupAt H t xs) : TupAt H' t xs := by
  obtain ⟨o, h1, h2⟩ := h
  exact ⟨o, h1, s _ _ h2⟩
theorem TupAt.sq {K : PySem.W.Frag} {H : Hp} {t : Addr} {xs : List V} (h : TupAt H t xs) : SqT K H t xs := by
  obtain ⟨o, _, h2⟩ := h
  exact .inl (.inr ⟨o, h2⟩)
theorem TupAt.ne {H : Hp} {b t : Addr} {xs : List V} (h : TupAt H t xs) (hb : IsBox H b) : t ≠ b := by
  obtain ⟨o, _, h2⟩ := h
  obtain ⟨i, j, k, e⟩ := hb
  exact ne_of h2 e (fun z => nomatch z)
theorem TupAt.ne_new {H : Hp} {p t : Addr} {xs : List V} (h : TupAt H t xs) (hp : H p = none) : t ≠ p := by
  obtain ⟨o, _, h2⟩ := h
  exact ne_of_none h2 hp
theorem TupAt.oth {H H' : Hp} {b t : Addr} {xs : List V} (s : Oth b H H') (hb : IsBox H b) (h : TupAt H t xs) : TupAt H' t xs := by
  have n := h.ne hb
  obtain ⟨o, h1, h2⟩ := h
  exact ⟨o, h1, s _ _ n h2⟩
/-- all but what stands at l, as it was -/
theorem TupAt.upd_ {H : Hp} {l t : Addr} {xs ys : List V} {o' : HO} (h : TupAt H t xs) (hl : H l = some (.lst ys)) : TupAt (upd H l o') t xs := by
  obtain ⟨o, h1, h2⟩ := h
  exact ⟨o, h1, (upd_ne (ne_of h2 hl (fun z => nomatch z))).trans h2⟩
theorem cutV_whole {xs : List V} {lo hi : Option Int} (h : HT.sIx xs.length 0 lo = 0 ∧ HT.sIx xs.length xs.length hi = xs.length) : cutV xs lo hi = xs := by
  unfold cutV
  rw [h.1, h.2, List.drop_zero, Nat.sub_zero, List.take_of_length_le (Nat.le_refl _)]
section
variable {X : Cx}
theorem laid_tup {pins : List (Addr × Obj)} {σ : L2.St} {H : Hp} {s : Shared} {xs : List V} {its : List Value} (I : Inv X pins σ H s) (hz : xs.length ≤ sizeLine) (r : Vals xs its) :
    Inv X pins σ (upd H s.heap.objs.size (.frz { cls := .type "tuple", data := .seq its.toArray } (.tup xs))) { s with heap := s.heap.push { cls := .type "tuple", data := .seq its.toArray } } :=
  I.laid (t' := s.toks) (fun b ob q => Heap.get?_push_of_some _ q) (Nat.le_refl _) ⟨Heap.get?_push_size _ rfl, hz, its, r, IsTup.new _ _⟩
def tTupF (t : TA) : TE := fun σ H Q => t σ H fun xs H1 => xs.length ≤ sizeLine ∧ ∀ p H', Same H1 H' → H1 p = none → TupAt H' p xs → Q (.ref p) H'
theorem pe_tupF {es : List Expr} {t : TA} {pos : Pos} {x1} (h : PA X es t) : PE X (.Tuple es x1 pos) (tTupF t) := by
  refine ⟨fun pins s σ H Q I hq => ?_⟩
  refine wpAny_Tuple_spliced (thn (h.run pos pins s σ H _ I hq) fun us s1 ⟨xs, H1, I1, r, z, q⟩ => ⟨by rw [← r.length]; exact z, ?_⟩)
  have hf : H1 s1.heap.objs.size = none := I1.hok.fresh (Nat.le_refl _)
  exact ⟨.ref s1.heap.objs.size, _, laid_tup I1 z r, rfl, q _ _ (same_upd hf) hf ⟨_, rfl, upd_same⟩⟩
theorem call_tupleF : CallR X (.type "tuple") (fun xs H Q => ∃ p ys, xs = [.ref p] ∧ ((SqL X.K H p ys ∧ ∀ l H', Same H H' → H l = none → TupAt H' l ys → Q (.ref l) H') ∨ (SqT X.K H p ys ∧ Q (.ref p) H))) := by
  intro pins s σ H xs us Q I r h
  obtain ⟨p, ys, rfl, h⟩ := h
  obtain ⟨u, rfl, rx⟩ := vals1 r
  cases rx
  rcases h with ⟨hq, q⟩ | ⟨hq, q⟩
  · obtain ⟨its, r', pl, hz⟩ := I.list hq
    have hlen := r'.length
    refine call_tuple_list pl.isList (fun h' kp => ?_) (by simp only [List.size_toArray] <;> omega)
    have I1 : Inv X pins σ H { s with heap := h' } := I.kept (t' := s.toks) kp
    have hf := I1.hok.fresh (Nat.le_refl _)
    exact ⟨.ref h'.objs.size, _, laid_tup I1 hz r', rfl, q _ _ (same_upd hf) hf ⟨_, rfl, upd_same⟩⟩
  · obtain ⟨its, r', pl, hz⟩ := I.tuple hq
    exact call_tuple_same pl ⟨.ref p, H, I, rfl, q⟩
def rSlM : V → Option Int → Option Int → Hp → VK → Prop := fun x lo hi H Q => ∃ a xs, x = .ref a ∧ TupAt H a xs ∧ ∀ t H', Same H H' → TupAt H' t (cutV xs lo hi) → Q (.ref t) H'
theorem sl_tupM : SlR X rSlM := by
  intro pins s σ H x v vl vu lo hi sl Q I rx hs pl pu h
  obtain ⟨a, xs, rfl, ha, q⟩ := h
  by_cases hw : HT.sIx xs.length 0 lo = 0 ∧ HT.sIx xs.length xs.length hi = xs.length
  · exact sl_tupA pins s σ H _ v vl vu lo hi sl Q I rx hs pl pu ⟨a, xs, rfl, ha.sq, fun _ => q a H (Same.refl H) (by rw [cutV_whole hw]; exact ha), fun z => absurd hw z⟩
  · cases rx
    obtain ⟨its, r, ht, hz⟩ := I.tuple (ha.sq (K := X.K))
    have hlen : its.toArray.size = xs.length := by rw [List.size_toArray]; exact r.length.symm
    refine ⟨"tuple", _, PyProof.Rows.slot_tuple_getitem.lookup, ht.typeIs, ?_⟩
    refine HT.getItem_tuple_cut ht hs pl pu (by rw [hlen]; exact hw) ?_ (by rw [hlen]; exact hz)
    rw [hlen]
    have hf : H s.heap.objs.size = none := I.hok.fresh (Nat.le_refl _)
    exact ⟨.ref s.heap.objs.size, _, laid_tup (xs := cutV xs lo hi) I (Nat.le_trans (cutV_length xs lo hi) hz) ((r.drop (HT.sIx xs.length 0 lo)).take (HT.sIx xs.length xs.length hi - HT.sIx xs.length 0 lo)), rfl, q _ _ (same_upd hf) ⟨_, rfl, upd_same⟩⟩
def rCatM : R2 := fun x y H Q => ∃ a b xs ys, x = .ref a ∧ y = .ref b ∧ TupAt H a xs ∧ TupAt H b ys ∧ xs.length + ys.length ≤ sizeLine ∧ ∀ t H', Same H H' → TupAt H' t (xs ++ ys) → Q (.ref t) H'
theorem op_catM : OpR X (binaryOp .Add) rCatM := by
  intro pins s σ H x y v u Q I rx ry h
  obtain ⟨a, b, xs, ys, rfl, rfl, ha, hb, hz, q⟩ := h
  cases rx
  cases ry
  obtain ⟨its, r1, p1, _⟩ := I.tuple (ha.sq (K := X.K))
  obtain ⟨its2, r2, p2, _⟩ := I.tuple (hb.sq (K := X.K))
  by_cases hx : xs = []
  · subst hx
    cases r1
    exact cat_tup0 p1 p2 ⟨.ref b, H, I, rfl, q b H (Same.refl H) hb⟩
  · refine HT.cat_tup p1 p2 (fun z => hx (r1.nil_iff.mp z)) (fun z => ⟨.ref a, H, I, rfl, q a H (Same.refl H) ?_⟩) (fun z => ?_) (by rw [← r1.length, ← r2.length]; exact hz)
    · rw [r2.nil_iff.mp z, List.append_nil]
      exact ha
    · have hf : H s.heap.objs.size = none := I.hok.fresh (Nat.le_refl _)
      exact ⟨.ref s.heap.objs.size, _, laid_tup (xs := xs ++ ys) I (by rw [List.length_append]; exact hz) (r1.append r2), rfl, q _ _ (same_upd hf) ⟨_, rfl, upd_same⟩⟩
/-- o.m(e, ..) of such a tuple -/
def tBMT (r : V → List V → Hp → VK → Prop) (to : TE) (t : TA) : TE := fun σ H Q => to σ H fun x H1 => (∃ a xs, x = .ref a ∧ TupAt H1 a xs) ∧ t σ H1 fun xs H2 => r x xs H2 Q
theorem pe_bmT {o e : Expr} {es : List Expr} {to : TE} {t : TA} {name : Str} {apos cpos : Pos} {id : String} {r : V → List V → Hp → VK → Prop} (slot : Slot "tuple" name id) (hty : typeOf (.builtin id) = pure (.type "method_descriptor")) (hm : MtR X id r) (ho : PE X o to) (ha : PA X (e :: es) t)
    (hbase : attributeBase o name X.env (eval o X.env) = eval o X.env := by rfl)
    (hfew : ((backTo cpos (starEach (e :: es) X.env)).all (fun x => !x.1) && (backToKw cpos (keywordEach [] X.env)).all (fun x => x.1.isSome)
      && decide ((e :: es).length + ([] : List Keyword).length + (if ([] : List Keyword).isEmpty then 0 else 1) < 30)) = true := by rfl)
    (hline : (apos.endLine == cpos.line) = true := by rfl) (hs : starEach (e :: es) X.env = (false, eval e X.env) :: starEach es X.env := by rfl) (hplain : (backTo cpos (starEach es X.env)).any (·.1) = false := by rfl) :
    PE X (.Call (.Attribute o name apos) (e :: es) [] cpos) (tBMT r to t) := by
  refine ⟨fun pins s σ H Q I h => ?_⟩
  refine wpAny_Call_method_late hbase hfew hline rfl (thn (ho.run pins s σ H _ I h) fun v s1 ⟨x, H1, I1, r1, ty, q1⟩ => ?_)
  obtain ⟨a, xs, ea, oo, hd, hH⟩ := ty
  subst ea
  cases r1
  obtain ⟨g1, g2⟩ := I1.hok _ _ hH
  obtain ⟨_, its, rv, o', g3, g4, _⟩ := g2
  have h1 : s1.TypeIs (.ref a) "tuple" := ⟨o', g3, g4⟩
  have h2 : ∀ b, Value.ref a = .ref b → ∃ ob, s1.heap.get? b = some ob ∧ ob.dict = none := fun b eb => by
    cases eb
    exact ⟨oo, g1, hd⟩
  refine ⟨"tuple", id, PySem.F.plainAttrs_tuple, slot, hty, h1, h2, ?_⟩
  have hA := ha.run cpos pins s1 σ H1 _ I1 q1
  rw [hs] at hA ⊢
  refine Calls.callWith_builtin (by show (false || (backTo cpos (starEach es X.env)).any (·.1)) = false; rw [hplain] <;> rfl) (Calls.evalArgs_plain ?_)
  exact thn hA fun us s2 ⟨vs, H2, I2, r2, q2⟩ => hm pins s2 σ H2 (.ref a) vs (.ref a) us Q I2 rfl r2 q2
/-- a list of texts != [] -/
def rNeNil : R2 := fun x y H Q => ∃ (a b : Addr) (ys : List Str), x = .ref a ∧ y = .ref b ∧ H a = some (.lst (ys.map V.str)) ∧ H b = some (.lst []) ∧ Goods ys ∧ Q (.bl (!decide (ys = []))) H
theorem op_neNil (hu : X.A.units + 64 < cLine) : OpR X (compareOp .NotEq) rNeNil := by
  intro pins s σ H x y v u Q I rx ry h
  obtain ⟨a, b, ys, rfl, rfl, ha, hb, hg, q⟩ := h
  refine op_neD hu pins s σ H _ _ v u Q I rx ry ⟨_, _, dp_list ha, dp_list (xs := []) hb, sh_list hg, sh_list (xs := []) (fun _ h => nomatch h), ?_⟩
  have e : PyData.eqv (.list (ys.map .str)) (.list (([] : List Str).map .str)) = decide (ys = []) := by
    rw [PyData.eqv, eqv_strs]
  rw [e]
  exact q
/-- two tuples of texts -/
def rEqT : R2 := fun x y H Q => ∃ (a b : Addr) (xs ys : List Str), x = .ref a ∧ y = .ref b ∧ TupAt H a (xs.map V.str) ∧ TupAt H b (ys.map V.str) ∧ Goods xs ∧ Goods ys ∧ Q (.bl (decide (xs = ys))) H
theorem op_eqT (hu : X.A.units + 64 < cLine) : OpR X (compareOp .Eq) rEqT := by
  intro pins s σ H x y v u Q I rx ry h
  obtain ⟨a, b, xs, ys, rfl, rfl, ha, hb, g1, g2, q⟩ := h
  refine op_eqD hu pins s σ H _ _ v u Q I rx ry ⟨_, _, .tup ha.sq (dp_strs xs), .tup hb.sq (dp_strs ys), sh_tuple g1, sh_tuple g2, ?_⟩
  have e : PyData.eqv (.tuple (xs.map .str)) (.tuple (ys.map .str)) = decide (xs = ys) := by
    rw [PyData.eqv, eqv_strs]
  rw [e]
  exact q
end

/-! ### a row: a tuple or a list of names -/
def RowAt (H : Hp) (a : Addr) (row : List Str) : Prop := TupAt H a (row.map V.str) ∨ H a = some (.lst (row.map V.str))
theorem RowAt.same {H H' : Hp} {a : Addr} {row : List Str} (s : Same H H') (h : RowAt H a row) : RowAt H' a row := h.elim (fun e => .inl (e.same s)) (fun e => .inr (s _ _ e))

/-! ### where one comes to -/
def lastP {α : Type} (p : α → Bool) : List α → Option Nat
  | [] => none
  | x :: r => match lastP p r with
    | some k => some (k + 1)
    | none => if p x then some 0 else none
theorem lastP_app {α : Type} (p : α → Bool) (x : α) : ∀ l : List α, lastP p (l ++ [x]) = if p x then some l.length else lastP p l
  | [] => by simp [lastP]
  | y :: l => by
    show (match lastP p (l ++ [x]) with | some k => some (k + 1) | none => if p y then some 0 else none) = _
    rw [lastP_app p x l]
    by_cases h : p x = true
    · rw [if_pos h, if_pos h]
      rfl
    · rw [if_neg h, if_neg h]
      rfl
theorem lastP_take {α : Type} (p : α → Bool) {xs : List α} {i : Nat} {x : α} (h : xs[i]? = some x) : lastP p (xs.take (i + 1)) = if p x then some i else lastP p (xs.take i) := by
  have hi : i < xs.length := (List.getElem?_eq_some_iff.mp h).1
  rw [List.take_add_one, h]
  show lastP p (xs.take i ++ [x]) = _
  rw [lastP_app, List.length_take, Nat.min_eq_left (Nat.le_of_lt hi)]
theorem lastP_some {α : Type} {p : α → Bool} : ∀ {l : List α} {k : Nat}, lastP p l = some k → ∃ x, l[k]? = some x ∧ p x = true ∧ ∀ j y, k < j → l[j]? = some y → p y = false
  | [], k, h => by cases h
  | x :: r, k, h => by
    unfold lastP at h
    cases e : lastP p r with
    | some j =>
      rw [e] at h
      have hk : j + 1 = k := Option.some.inj h
      subst hk
      obtain ⟨y, h1, h2, h3⟩ := lastP_some e
      refine ⟨y, h1, h2, fun j' z hj hz => ?_⟩
      match j', hj, hz with
      | j' + 1, hj, hz => exact h3 j' z (by omega) hz
    | none =>
      rw [e] at h
      by_cases hx : p x = true
      · simp only [hx, if_true] at h
        have hk : 0 = k := Option.some.inj h
        subst hk
        refine ⟨x, rfl, hx, fun j' z hj hz => ?_⟩
        match j', hj, hz with
        | j' + 1, hj, hz => exact lastP_none e j' z hz
      · simp only [hx] at h
        cases h
where lastP_none {α : Type} {p : α → Bool} : ∀ {l : List α}, lastP p l = none → ∀ (j : Nat) (y : α), l[j]? = some y → p y = false
  | [], _, j, y, h => by simp at h
  | x :: r, e, j, y, h => by
    unfold lastP at e
    cases e2 : lastP p r with
    | some k => rw [e2] at e; cases e
    | none =>
      rw [e2] at e
      by_cases hx : p x = true
      · simp only [hx, if_true] at e
        cases e
      · match j, h with
        | 0, h =>
          have : x = y := Option.some.inj h
          subst this
          exact Bool.eq_false_iff.mpr hx
        | j + 1, h => exact lastP_none e2 j y h
theorem lastP_nil {α : Type} {p : α → Bool} : ∀ {l : List α}, lastP p l = none ↔ l.filter p = []
  | [] => by simp [lastP]
  | x :: r => by
    have ih := lastP_nil (p := p) (l := r)
    unfold lastP
    cases e : lastP p r with
    | some k =>
      have : ¬ r.filter p = [] := fun z => by rw [ih.mpr z] at e; cases e
      rw [List.filter_cons]
      by_cases hx : p x = true
      · simp [hx]
      · simp [hx, this]
    | none =>
      have z := ih.mp e
      rw [List.filter_cons, z]
      by_cases hx : p x = true
      · simp [hx]
      · simp [hx]
theorem Goods.at_ {xs : List Str} {i : Nat} {x : Str} (h : Goods xs) (e : xs[i]? = some x) : Good x := h x (List.mem_of_getElem? e)
theorem Goods.filter {xs : List Str} {p : Str → Bool} (h : Goods xs) : Goods (xs.filter p) := fun x hx => h x (List.mem_filter.mp hx).1
def spotOf (ps : List (Str × Str)) (stand : List Str) (x : Str) : Nat := match lastP (frd ps x) stand with
  | some k => k + 1
  | none => stand.length
def comeTo (ps : List (Str × Str)) (stand : List Str) (x : Str) : List Str := stand.take (spotOf ps stand x) ++ [x] ++ stand.drop (spotOf ps stand x)
def standOf (ps : List (Str × Str)) (order : List Str) : List Str := order.foldl (comeTo ps) []
theorem come_perm (ps : List (Str × Str)) (stand : List Str) (x : Str) : (comeTo ps stand x).Perm (x :: stand) := ins_perm _ _ _
theorem standOf_app (ps : List (Str × Str)) (o : List Str) (x : Str) : standOf ps (o ++ [x]) = comeTo ps (standOf ps o) x := by
  unfold standOf
  rw [List.foldl_append]
  rfl
theorem stand_perm_from (ps : List (Str × Str)) : ∀ (o stand : List Str), (o.foldl (comeTo ps) stand).Perm (o ++ stand)
  | [], stand => List.Perm.refl _
  | x :: o, stand => by
    show (o.foldl (comeTo ps) (comeTo ps stand x)).Perm _
    refine (stand_perm_from ps o _).trans ?_
    refine ((come_perm ps stand x).append_left o).trans ?_
    exact List.perm_middle
theorem stand_perm (ps : List (Str × Str)) (o : List Str) : (standOf ps o).Perm o := by
  have h := stand_perm_from ps o []
  rw [List.append_nil] at h
  exact h

/-! ### promises -/
def spAre : Sp := fun vs H Q _ => ∃ (a : Addr) (ps : List (Str × Str)) (x y : Str), vs = [.ref a, .str x, .str y] ∧ PalsAt H a ps ∧ PalsOk ps ∧ Good x ∧ Good y ∧ ∀ H', Same H H' → Q (.bl (frd ps x y)) H'
def spCome : Sp := fun vs H Q _ => ∃ (a t : Addr) (ps : List (Str × Str)) (stand : List Str) (x : Str), vs = [.ref a, .ref t, .str x] ∧ PalsAt H a ps ∧ PalsOk ps ∧ TupAt H t (stand.map V.str) ∧ Goods stand ∧ Good x ∧ stand.length ≤ 100 ∧
  ∀ t' H', Same H H' → TupAt H' t' ((comeTo ps stand x).map V.str) → Q (.ref t') H'
def spStrewn : Sp := fun vs H Q _ => ∃ (b l : Addr) (pool : List Str), vs = [.ref b, .ref l] ∧ IsBox H b ∧ RowAt H l pool ∧ pool.length ≤ 100 ∧
  ∀ (p : Addr) (order : List Str) (H' : Hp), Oth b H H' → IsBox H' b → H p = none → H' p = some (.lst (order.map V.str)) → order.Perm pool → Q (.ref p) H'
end Lk
set_option maxRecDepth 100000
set_option maxHeartbeats 4000000
namespace Lk
open PySem PySem.Spec PyProof.Rows L2
/-- a tuple that is tracked, either way -/
def TupX (H : Hp) (a : Addr) (xs : List V) : Prop := H a = some (.tup xs) ∨ TupAt H a xs
theorem TupX.same {H H' : Hp} {a : Addr} {xs : List V} (s : Same H H') (h : TupX H a xs) : TupX H' a xs := h.elim (fun e => .inl (s _ _ e)) (fun e => .inr (e.same s))
theorem TupX.sq {K : PySem.W.Frag} {H : Hp} {a : Addr} {xs : List V} (h : TupX H a xs) : SqT K H a xs := h.elim (fun e => .inl (.inl e)) (fun e => e.sq)
theorem TupX.ty {K : PySem.W.Frag} {H : Hp} {a : Addr} {xs : List V} (h : TupX H a xs) : TyX K H (.ref a) (.type "tuple") := h.elim (fun e => .base (.tup e)) (fun ⟨_, _, e⟩ => .fTuple e)
/-- two values that _law_same tells to be the same: scalars, lists, tuples, at most n deep -/
def Alk (H : Hp) : Nat → V → V → Prop
  | 0, _, _ => False
  | n + 1, x, y => ((x = .non ∨ (∃ b, x = .bl b) ∨ (∃ i, x = .int i) ∨ ∃ z, x = .str z) ∧ y = x) ∨
    (∃ a b xs ys, x = .ref a ∧ y = .ref b ∧ H a = some (.lst xs) ∧ H b = some (.lst ys) ∧ xs.length = ys.length ∧ xs.length ≤ 1000 ∧ ∀ (i : Nat) (u v : V), xs[i]? = some u → ys[i]? = some v → Alk H n u v) ∨
    (∃ a b xs ys, x = .ref a ∧ y = .ref b ∧ TupX H a xs ∧ TupX H b ys ∧ xs.length = ys.length ∧ xs.length ≤ 1000 ∧ ∀ (i : Nat) (u v : V), xs[i]? = some u → ys[i]? = some v → Alk H n u v)
theorem Alk.same {H H' : Hp} (s : Same H H') : ∀ {n : Nat} {x y : V}, Alk H n x y → Alk H' n x y
  | 0, _, _, h => h.elim
  | n + 1, x, y, h => by
    rcases h with h | ⟨a, b, xs, ys, e1, e2, h1, h2, hl, hz, h⟩ | ⟨a, b, xs, ys, e1, e2, h1, h2, hl, hz, h⟩
    · exact .inl h
    · exact .inr (.inl ⟨a, b, xs, ys, e1, e2, s _ _ h1, s _ _ h2, hl, hz, fun i u v hu hv => Alk.same s (h i u v hu hv)⟩)
    · exact .inr (.inr ⟨a, b, xs, ys, e1, e2, h1.same s, h2.same s, hl, hz, fun i u v hu hv => Alk.same s (h i u v hu hv)⟩)
end Lk
set_option maxRecDepth 100000
set_option maxHeartbeats 4000000
namespace Lk
open PySem PySem.Spec PyProof.Rows L2

/-! ### the dict of friends, either way about -/
def k2 (a b : Str) : List Key := [Sum.inr a, Sum.inr b]
theorem k2_inj {a b c d : Str} : k2 a b = k2 c d ↔ a = c ∧ b = d := by
  unfold k2
  simp
def KnAt (H : Hp) (d : Addr) (ps : List (Str × Str)) : Prop := ∃ kvs, H d = some (.dT kvs) ∧ ∀ a b, (valV kvs (k2 a b)).isSome = frd ps a b
theorem KnAt.same {H H' : Hp} {d : Addr} {ps : List (Str × Str)} (s : Same H H') (h : KnAt H d ps) : KnAt H' d ps := by
  obtain ⟨kvs, h1, h2⟩ := h
  exact ⟨kvs, s _ _ h1, h2⟩
theorem putK_len {kvs : List (List Key × V)} {k : List Key} {v : V} : (putK kvs k v).length ≤ kvs.length + 1 := by
  unfold putK
  split
  · rw [List.length_map]
    omega
  · rw [List.length_append]
    exact Nat.le_refl _
theorem frd_app (ps : List (Str × Str)) (p : Str × Str) (a b : Str) : frd (ps ++ [p]) a b = (frd ps a b || decide ((a, b) = p) || decide ((b, a) = p)) := by
  unfold frd
  by_cases h1 : (a, b) ∈ ps <;> by_cases h2 : (b, a) ∈ ps <;> by_cases h3 : (a, b) = p <;> by_cases h4 : (b, a) = p <;> simp [h1, h2, h3, h4]
theorem both_put {kvs : List (List Key × V)} {ps : List (Str × Str)} (h : ∀ a b, (valV kvs (k2 a b)).isSome = frd ps a b) (x y : Str) (u v : V) (a b : Str) :
    (valV (putK (putK kvs (k2 x y) u) (k2 y x) v) (k2 a b)).isSome = frd (ps ++ [(x, y)]) a b := by
  rw [valV_put, valV_put, frd_app, ← h a b]
  by_cases h1 : k2 a b = k2 y x
  · rw [if_pos h1]
    obtain ⟨e1, e2⟩ := k2_inj.mp h1
    subst e1 e2
    simp
  · rw [if_neg h1]
    have n1 : ¬ (b, a) = (x, y) := fun z => h1 (k2_inj.mpr ⟨(Prod.mk.inj z).2, (Prod.mk.inj z).1⟩)
    by_cases h2 : k2 a b = k2 x y
    · rw [if_pos h2]
      obtain ⟨e1, e2⟩ := k2_inj.mp h2
      subst e1 e2
      simp
    · rw [if_neg h2]
      have n2 : ¬ (a, b) = (x, y) := fun z => h2 (k2_inj.mpr ⟨(Prod.mk.inj z).1, (Prod.mk.inj z).2⟩)
      simp [n1, n2]

/-! ### places, words -/
def optW (c : Bool) (w : Str) : List Str := if c = true then [w] else []
def lfpV : Option Nat → V
  | none => .non
  | some k => .int k
theorem inV_strs (x : Str) (xs : List Str) : inV (.str x) (xs.map V.str) = decide (x ∈ xs) := by
  unfold inV
  rw [List.any_map]
  induction xs with
  | nil => rfl
  | cons y r ih =>
    rw [List.any_cons, ih]
    show ((y == x) || _) = _
    by_cases h : y = x
    · subst h
      simp
    · have h' : ¬ x = y := fun z => h z.symm
      simp [h, h']
theorem lastP_lt {α : Type} {p : α → Bool} {l : List α} {k : Nat} (h : lastP p l = some k) : k < l.length := by
  obtain ⟨x, hx, _⟩ := lastP_some h
  exact (List.getElem?_eq_some_iff.mp hx).1
def btw (i j : Nat) : Option Nat → Bool
  | none => false
  | some k => decide (k < j) && decide (j < i)
/-- the words by which one, at place i, bars other, at place j -/
def wordsOf (ps : List (Str × Str)) (row : List Str) (one other : Str) (i j : Nat) : List Str :=
  optW (decide (lastP (frd ps one) (row.take i) = none) && decide (i < j)) "behind" ++
  optW (btw i j (lastP (frd ps one) (row.take i))) "between" ++
  optW (decide (i < j) && frd ps one other) "friend"
/-! ### index -/
section
variable {X : Cx}
def rIdxL : V → List V → Hp → VK → Prop := fun x xs H Q => ∃ (a : Addr) (ys : List Str) (z : Str) (j : Nat), x = .ref a ∧ xs = [.str z] ∧ H a = some (.lst (ys.map V.str)) ∧ ys[j]? = some z ∧ (∀ m, m < j → ys[m]? ≠ some z) ∧ Q (.int (j : Nat)) H
theorem mt_idxL : MtR X "list.index" rIdxL := by
  intro pins s σ H x xs v us Q I rx rs h
  obtain ⟨a, ys, z, j, rfl, rfl, ha, hj, hno, q⟩ := h
  refine mt_index pins s σ H _ _ v us Q I rx rs ⟨a, ys.map V.str, .str z, j, .str z, rfl, rfl, .inl (.inl ha), rfl, flat_strs ys, ix_map hj, ?_, fun m z' hm hz' => ?_, q⟩
  · show (z == z) = true
    exact beq_self_eq_true z
  · obtain ⟨y, hy, rfl⟩ := at_map hz'
    show (y == z) = false
    exact beq_eq_false_iff_ne.mpr fun e => hno m hm (by rw [hy, e])
end
theorem nd_first {row : List Str} {i : Nat} {x : Str} (hd : row.Nodup) (h : row[i]? = some x) : ∀ m, m < i → row[m]? ≠ some x := fun m hm e => by
  have := nd_ix hd h e
  omega

/-! ### promises of the program -/
def spBoth : Sp := fun vs H Q _ => ∃ (a : Addr) (ps : List (Str × Str)), vs = [.ref a] ∧ FrAt H a ps ∧ ps.length ≤ 1000 ∧ ∀ d H', Same H H' → H d = none → KnAt H' d ps → Q (.ref d) H'
def spLfp : Sp := fun vs H Q _ => ∃ (d r : Addr) (ps : List (Str × Str)) (row : List Str) (who : Str), vs = [.ref d, .ref r, .str who] ∧ KnAt H d ps ∧ RowAt H r row ∧ row.length ≤ 100 ∧
  ∀ H', Same H H' → Q (lfpV (lastP (frd ps who) row)) H'
def spBarW : Sp := fun vs H Q _ => ∃ (d r : Addr) (ps : List (Str × Str)) (row : List Str) (one other : Str) (i j : Nat), vs = [.ref d, .ref r, .str one, .str other] ∧ KnAt H d ps ∧ RowAt H r row ∧ row.length ≤ 100 ∧ row.Nodup ∧ row[i]? = some one ∧ row[j]? = some other ∧
  ∀ p H', Same H H' → H p = none → H' p = some (.lst ((wordsOf ps row one other i j).map V.str)) → Q (.ref p) H'
/-! ### .. and of the law's own words -/
def spRight : Sp := fun vs H Q _ => ∃ b : Addr, vs = [.ref b] ∧ IsBox H b ∧ ∀ H', Oth b H H' → Q (.bl true) H'
def spLaw (K : PySem.W.Frag) : Sp := fun vs H Q _ => ∃ (a : Addr) (ns : List Int), vs = [.ref a] ∧ SqL K H a (ns.map V.int) ∧ ns.length ≤ 63 ∧ ∀ H', Q (.bl true) H'
/-! ### calls by keywords that stand in the parameters' order turned about -/
/-- no positional ones, the keywords turned about -/
def gRev {α : Type} : List α → List α → List α
  | [], ws => ws.reverse
  | _ :: _, _ => []
end Lk
set_option maxRecDepth 100000
set_option maxHeartbeats 4000000
namespace Lk
open PySem PySem.Spec PyProof.Rows L2

/-! ### who can have come last -/
theorem lastP_append {α : Type} (p : α → Bool) (b : List α) : ∀ a : List α, lastP p (a ++ b) = match lastP p b with | some k => some (a.length + k) | none => lastP p a
  | [] => by
    show lastP p b = _
    cases lastP p b with
    | none => rfl
    | some k => simp
  | x :: a => by
    have ih := lastP_append p b a
    show (match lastP p (a ++ b) with | some k => some (k + 1) | none => if p x then some 0 else none) = _
    rw [ih]
    cases lastP p b with
    | none => rfl
    | some k =>
      show some (a.length + k + 1) = some ((x :: a).length + k)
      rw [List.length_cons]
      congr 1
      omega
/-- the one at place i is loose -/
def looseB (ps : List (Str × Str)) (row : List Str) (i : Nat) (x : Str) : Bool := match lastP (frd ps x) row with
  | none => decide (i + 1 = row.length)
  | some k => decide (k + 1 = i)
theorem split_at {α : Type} {row : List α} {i : Nat} {x : α} (h : row[i]? = some x) : row = row.take i ++ x :: row.drop (i + 1) := by
  have hi : i < row.length := (List.getElem?_eq_some_iff.mp h).1
  have e := List.getElem?_eq_getElem hi
  rw [h] at e
  have e2 : x = row[i] := Option.some.inj e
  rw [e2, ← List.drop_eq_getElem_cons hi, List.take_append_drop]
theorem ins_eq {α : Type} {a b : List α} {x : α} {s : Nat} (hx : x ∉ a ++ b) (hs : s ≤ (a ++ b).length) (h : (a ++ b).take s ++ [x] ++ (a ++ b).drop s = a ++ x :: b) : s = a.length := by
  have e1 : ((a ++ b).take s ++ [x] ++ (a ++ b).drop s)[s]? = some x := by
    rw [List.append_assoc, List.getElem?_append_right (by rw [List.length_take]; omega), List.length_take, Nat.min_eq_left hs, Nat.sub_self]
    rfl
  rw [h] at e1
  by_cases h1 : s < a.length
  · rw [List.getElem?_append_left h1] at e1
    exact absurd (List.mem_append_left b (List.mem_of_getElem? e1)) hx
  · rw [List.getElem?_append_right (by omega)] at e1
    cases h2 : s - a.length with
    | zero => omega
    | succ m =>
      rw [h2, List.getElem?_cons_succ] at e1
      exact absurd (List.mem_append_right a (List.mem_of_getElem? e1)) hx
theorem loose_iff {ps : List (Str × Str)} {row : List Str} {i : Nat} {x : Str} (hd : row.Nodup) (h : row[i]? = some x) (irr : frd ps x x = false) :
    decide (comeTo ps (row.take i ++ row.drop (i + 1)) x = row) = looseB ps row i x := by
  have hi : i < row.length := (List.getElem?_eq_some_iff.mp h).1
  have sp := split_at h
  generalize ha : row.take i = a at sp
  generalize hb : row.drop (i + 1) = b at sp
  have la : a.length = i := by
    rw [← ha, List.length_take]
    omega
  have nx : x ∉ a ++ b := by
    rw [sp] at hd
    have q : (x :: (a ++ b)).Nodup := (List.perm_middle.nodup_iff).mp hd
    exact (List.nodup_cons.mp q).1
  have lr : row.length = a.length + b.length + 1 := by
    rw [sp, List.length_append, List.length_cons]
    omega
  have key : comeTo ps (a ++ b) x = row ↔ spotOf ps (a ++ b) x = i := by
    constructor
    · intro e
      rw [← la]
      refine ins_eq (s := spotOf ps (a ++ b) x) nx ?_ (e.trans sp)
      unfold spotOf
      split
      · rename_i k ek
        have := lastP_lt ek
        omega
      · exact Nat.le_refl _
    · intro e
      unfold comeTo
      rw [e, ← la, List.take_left' rfl, List.drop_left' rfl, List.append_assoc]
      exact sp.symm
  have e1 : lastP (frd ps x) (x :: b) = (lastP (frd ps x) b).map (· + 1) := by
    show (match lastP (frd ps x) b with | some k => some (k + 1) | none => if frd ps x x then some 0 else none) = _
    rw [irr]
    cases lastP (frd ps x) b <;> rfl
  have e2 : lastP (frd ps x) row = match lastP (frd ps x) (x :: b) with | some k => some (a.length + k) | none => lastP (frd ps x) a := by
    rw [← lastP_append, ← sp]
  have e3 := lastP_append (frd ps x) b a
  rw [e1] at e2
  have fin : (spotOf ps (a ++ b) x = i) ↔ looseB ps row i x = true := by
    unfold looseB spotOf
    rw [e2, e3]
    cases lastP (frd ps x) b with
    | some k =>
      show (a.length + k + 1 = i) ↔ decide (a.length + (k + 1) + 1 = i) = true
      rw [decide_eq_true_eq]
      omega
    | none =>
      cases lastP (frd ps x) a with
      | some k =>
        show (k + 1 = i) ↔ decide (k + 1 = i) = true
        rw [decide_eq_true_eq]
      | none =>
        show ((a ++ b).length = i) ↔ decide (i + 1 = row.length) = true
        rw [decide_eq_true_eq, List.length_append]
        omega
  cases c : looseB ps row i x with
  | true => exact decide_eq_true (key.mpr (fin.mpr c))
  | false => exact decide_eq_false (fun z => by rw [fin.mp (key.mp z)] at c; cases c)
/-- all that are loose, in the row's order -/
def looseL (ps : List (Str × Str)) (row : List Str) : List Str := (row.zipIdx.filter fun p => looseB ps row p.2 p.1).map (·.1)
def looseTo (ps : List (Str × Str)) (row : List Str) (n : Nat) : List Str := ((row.zipIdx.take n).filter fun p => looseB ps row p.2 p.1).map (·.1)
theorem looseTo_step {ps : List (Str × Str)} {row : List Str} {i : Nat} {x : Str} (h : row[i]? = some x) : looseTo ps row (i + 1) = looseTo ps row i ++ if looseB ps row i x = true then [x] else [] := by
  have e : row.zipIdx[i]? = some (x, i) := by
    rw [List.getElem?_zipIdx, h]
    simp
  unfold looseTo
  rw [List.take_add_one, e, List.filter_append, List.map_append]
  show _ ++ List.map (·.1) (List.filter _ [(x, i)]) = _
  rw [List.filter_cons, List.filter_nil]
  show _ ++ List.map (·.1) (if looseB ps row i x = true then [(x, i)] else []) = _
  by_cases c : looseB ps row i x = true
  · rw [if_pos c, if_pos c]
    rfl
  · rw [if_neg c, if_neg c]
    rfl
theorem looseTo_all (ps : List (Str × Str)) (row : List Str) : looseTo ps row row.length = looseL ps row := by
  unfold looseTo looseL
  rw [List.take_of_length_le (by rw [List.length_zipIdx]; exact Nat.le_refl _)]
theorem looseL_mem {ps : List (Str × Str)} {row : List Str} {i : Nat} {x : Str} (hd : row.Nodup) (h : row[i]? = some x) : decide (x ∈ looseL ps row) = looseB ps row i x := by
  unfold looseL
  have e : (x ∈ (row.zipIdx.filter fun p => looseB ps row p.2 p.1).map (·.1)) ↔ looseB ps row i x = true := by
    constructor
    · intro m
      obtain ⟨⟨y, j⟩, hp, rfl⟩ := List.mem_map.mp m
      obtain ⟨h1, h2⟩ := List.mem_filter.mp hp
      have h3 : row[j]? = some y := by
        have q := List.mem_zipIdx_iff_getElem?.mp h1
        exact q
      have ej := nd_ix hd h3 h
      rw [← ej]
      exact h2
    · intro c
      refine List.mem_map.mpr ⟨(x, i), List.mem_filter.mpr ⟨?_, c⟩, rfl⟩
      exact List.mem_zipIdx_iff_getElem?.mpr h
  cases c : looseB ps row i x with
  | true => exact decide_eq_true (e.mpr c)
  | false => exact decide_eq_false (fun z => by rw [e.mp z] at c; cases c)

/-! ### promises -/
def spLooseAt : Sp := fun vs H Q _ => ∃ (d r : Addr) (ps : List (Str × Str)) (row : List Str) (x : Str) (i : Nat), vs = [.ref d, .ref r, .int i] ∧ KnAt H d ps ∧ RowAt H r row ∧ row.length ≤ 100 ∧ row[i]? = some x ∧
  ∀ H', Same H H' → Q (.bl (looseB ps row i x)) H'
end Lk
set_option maxRecDepth 100000
set_option maxHeartbeats 4000000
namespace Lk
open PySem PySem.Spec PyProof.Rows L2

/-! ### whichever go, the same are left -/
def LooseP (ps : List (Str × Str)) (a b : List Str) (x : Str) : Prop :=
  (∀ y ∈ b, frd ps x y = false) ∧ ((∃ a' f, a = a' ++ [f] ∧ frd ps x f = true) ∨ ((∀ y ∈ a, frd ps x y = false) ∧ b = []))
theorem lastP_no {α : Type} {p : α → Bool} {l : List α} : lastP p l = none ↔ ∀ y ∈ l, p y = false := by
  rw [lastP_nil]
  constructor
  · intro h y hy
    cases c : p y with
    | false => rfl
    | true =>
      have m : y ∈ l.filter p := List.mem_filter.mpr ⟨hy, c⟩
      rw [h] at m
      cases m
  · intro h
    refine List.filter_eq_nil_iff.mpr fun y hy => ?_
    rw [h y hy]
    exact Bool.false_ne_true
theorem lastP_end {α : Type} {p : α → Bool} {l : List α} {k : Nat} (h : lastP p l = some k) (e : k + 1 = l.length) : ∃ l' f, l = l' ++ [f] ∧ p f = true := by
  obtain ⟨f, h1, h2, _⟩ := lastP_some h
  refine ⟨l.take k, f, ?_, h2⟩
  have q := split_at h1
  rw [List.drop_eq_nil_of_le (by omega)] at q
  exact q
theorem looseB_iff {ps : List (Str × Str)} {row a b : List Str} {x : Str} (h : row = a ++ x :: b) (irr : frd ps x x = false) : looseB ps row a.length x = true ↔ LooseP ps a b x := by
  have e1 : lastP (frd ps x) (x :: b) = (lastP (frd ps x) b).map (· + 1) := by
    show (match lastP (frd ps x) b with | some k => some (k + 1) | none => if frd ps x x then some 0 else none) = _
    rw [irr]
    cases lastP (frd ps x) b <;> rfl
  have e2 : lastP (frd ps x) row = match lastP (frd ps x) (x :: b) with | some k => some (a.length + k) | none => lastP (frd ps x) a := by
    rw [h]
    exact lastP_append (frd ps x) (x :: b) a
  rw [e1] at e2
  have lr : row.length = a.length + b.length + 1 := by
    rw [h, List.length_append, List.length_cons]
    omega
  unfold looseB LooseP
  rw [e2]
  cases eb : lastP (frd ps x) b with
  | some k =>
    obtain ⟨f, h1, h2, _⟩ := lastP_some eb
    show decide (a.length + (k + 1) + 1 = a.length) = true ↔ _
    rw [decide_eq_true_eq]
    constructor
    · intro z
      omega
    · rintro ⟨z, _⟩
      rw [z f (List.mem_of_getElem? h1)] at h2
      cases h2
  | none =>
    have nb := lastP_no.mp eb
    cases ea : lastP (frd ps x) a with
    | some k =>
      show decide (k + 1 = a.length) = true ↔ _
      rw [decide_eq_true_eq]
      obtain ⟨f, h1, h2, h3⟩ := lastP_some ea
      constructor
      · intro z
        exact ⟨nb, .inl (lastP_end ea z)⟩
      · rintro ⟨_, ⟨a', f', rfl, z⟩ | ⟨z, _⟩⟩
        · rw [List.length_append]
          show k + 1 = a'.length + 1
          have hk := (List.getElem?_eq_some_iff.mp h1).1
          rw [List.length_append] at hk
          have hk' : k < a'.length + 1 := hk
          by_cases c : k < a'.length
          · have q := h3 a'.length f' c (by simp)
            rw [q] at z
            cases z
          · omega
        · rw [z f (List.mem_of_getElem? h1)] at h2
          cases h2
    | none =>
      have na := lastP_no.mp ea
      show decide (a.length + 1 = row.length) = true ↔ _
      rw [decide_eq_true_eq]
      constructor
      · intro z
        exact ⟨nb, .inr ⟨na, List.length_eq_zero_iff.mp (by omega)⟩⟩
      · rintro ⟨_, ⟨a', f', rfl, z⟩ | ⟨_, z⟩⟩
        · rw [na f' (by simp)] at z
          cases z
        · rw [z] at lr
          simpa using lr.symm
def LooseIn (ps : List (Str × Str)) (row : List Str) (x : Str) : Prop := ∃ a b, row = a ++ x :: b ∧ LooseP ps a b x
def Irr (ps : List (Str × Str)) : Prop := ∀ x, frd ps x x = false
def rem (row : List Str) (x : Str) : List Str := row.filter fun y => !decide (y = x)
theorem rem_split {a b : List Str} {x : Str} (hd : (a ++ x :: b).Nodup) : rem (a ++ x :: b) x = a ++ b := by
  have q : (x :: (a ++ b)).Nodup := (List.perm_middle.nodup_iff).mp hd
  have nx := (List.nodup_cons.mp q).1
  unfold rem
  rw [List.filter_append, List.filter_cons]
  have e1 : a.filter (fun y => !decide (y = x)) = a := List.filter_eq_self.mpr fun y hy => by
    have : ¬ y = x := fun z => nx (List.mem_append_left b (z ▸ hy))
    simp [this]
  have e2 : b.filter (fun y => !decide (y = x)) = b := List.filter_eq_self.mpr fun y hy => by
    have : ¬ y = x := fun z => nx (List.mem_append_right a (z ▸ hy))
    simp [this]
  rw [e1, e2]
  simp
theorem rem_nodup {row : List Str} {x : Str} (hd : row.Nodup) : (rem row x).Nodup := hd.filter _
theorem rem_comm (row : List Str) (x y : Str) : rem (rem row x) y = rem (rem row y) x := by
  unfold rem
  rw [List.filter_filter, List.filter_filter]
  refine List.filter_congr fun z _ => ?_
  exact Bool.and_comm _ _
theorem rem_len {row : List Str} {x : Str} (hd : row.Nodup) (hx : x ∈ row) : (rem row x).length + 1 = row.length := by
  obtain ⟨a, b, rfl⟩ := List.append_of_mem hx
  rw [rem_split hd, List.length_append, List.length_append, List.length_cons]
  omega
theorem LooseIn.mem {ps : List (Str × Str)} {row : List Str} {x : Str} (h : LooseIn ps row x) : x ∈ row := by
  obtain ⟨a, b, rfl, _⟩ := h
  simp
theorem split_uniq {row a b c d : List Str} {x : Str} (hd : row.Nodup) (h1 : row = a ++ x :: b) (h2 : row = c ++ x :: d) : a = c ∧ b = d := by
  have e1 : row[a.length]? = some x := by rw [h1]; simp
  have e2 : row[c.length]? = some x := by rw [h2]; simp
  have l := nd_ix hd e1 e2
  have e := h1.symm.trans h2
  have q := List.append_inj e l
  exact ⟨q.1, (List.cons.inj q.2).2⟩
theorem looseL_iff {ps : List (Str × Str)} {row : List Str} {x : Str} (irr : Irr ps) (hd : row.Nodup) : x ∈ looseL ps row ↔ LooseIn ps row x := by
  constructor
  · intro h
    have hx : x ∈ row := by
      unfold looseL at h
      obtain ⟨⟨y, j⟩, hp, rfl⟩ := List.mem_map.mp h
      exact List.mem_of_getElem? (List.mem_zipIdx_iff_getElem?.mp (List.mem_filter.mp hp).1)
    obtain ⟨a, b, e⟩ := List.append_of_mem hx
    have ei : row[a.length]? = some x := by rw [e]; simp
    have q := looseL_mem (ps := ps) hd ei
    rw [decide_eq_true h] at q
    exact ⟨a, b, e, (looseB_iff e (irr x)).mp q.symm⟩
  · rintro ⟨a, b, e, h⟩
    have ei : row[a.length]? = some x := by rw [e]; simp
    have q := looseL_mem (ps := ps) hd ei
    rw [(looseB_iff e (irr x)).mpr h] at q
    exact of_decide_eq_true q
/-- the lemma: of two that are loose each is so without the other -/
theorem diamond {ps : List (Str × Str)} {row : List Str} {x y : Str} (hd : row.Nodup) (hx : LooseIn ps row x) (hy : LooseIn ps row y) (ne : x ≠ y) : LooseIn ps (rem row y) x := by
  obtain ⟨a, b, e, h1, h2⟩ := hx
  have my : y ∈ row := hy.mem
  obtain ⟨c, d, e', g1, g2⟩ := hy
  have my' : y ∈ a ∨ y ∈ b := by
    rw [e] at my
    rcases List.mem_append.mp my with z | z
    · exact .inl z
    · rcases List.mem_cons.mp z with z | z
      · exact absurd z.symm ne
      · exact .inr z
  rcases my' with m | m
  · obtain ⟨a1, a2, rfl⟩ := List.append_of_mem m
    have e2 : row = a1 ++ y :: (a2 ++ x :: b) := by rw [e]; simp
    have er : rem row y = (a1 ++ a2) ++ x :: b := by
      rw [e2, rem_split (by rw [← e2]; exact hd)]
      simp
    refine ⟨a1 ++ a2, b, er, h1, ?_⟩
    obtain ⟨_, u2⟩ := split_uniq hd e2 e'
    rcases h2 with ⟨a', f, ea, hf⟩ | ⟨na, nb⟩
    · rcases List.eq_nil_or_concat a2 with z | ⟨l, g, z⟩
      · subst z
        have q := List.append_inj' ea (by rfl)
        have ey : y = f := (List.cons.inj q.2).1
        have bad := g1 x (by rw [← u2]; simp)
        rw [frd_comm, ey, hf] at bad
        cases bad
      · rw [List.concat_eq_append] at z
        subst z
        have ea' : (a1 ++ y :: l) ++ [g] = a' ++ [f] := by rw [← ea]; simp
        have q := List.append_inj' ea' rfl
        have eg : g = f := (List.cons.inj q.2).1
        exact .inl ⟨a1 ++ l, g, by simp, by rw [eg]; exact hf⟩
    · exact .inr ⟨fun z hz => na z (by
        rcases List.mem_append.mp hz with w | w
        · exact List.mem_append_left _ w
        · exact List.mem_append_right _ (List.mem_cons_of_mem _ w)), nb⟩
  · obtain ⟨b1, b2, rfl⟩ := List.append_of_mem m
    have e2 : row = (a ++ x :: b1) ++ y :: b2 := by rw [e]; simp
    have er : rem row y = a ++ x :: (b1 ++ b2) := by
      rw [e2, rem_split (by rw [← e2]; exact hd)]
      simp
    refine ⟨a, b1 ++ b2, er, fun z hz => h1 z (by
        rcases List.mem_append.mp hz with w | w
        · exact List.mem_append_left _ w
        · exact List.mem_append_right _ (List.mem_cons_of_mem _ w)), ?_⟩
    rcases h2 with h | ⟨_, z⟩
    · exact .inl h
    · exact absurd z (by simp)
/-- one behind the other, loose ones that needn't stay go -/
inductive Red (ps : List (Str × Str)) (stay : List Str) : List Str → List Str → Prop where
  | done (row : List Str) : Red ps stay row row
  | go {row n : List Str} (x : Str) (h : LooseIn ps row x) (hs : x ∉ stay) (t : Red ps stay (rem row x) n) : Red ps stay row n
def Nf (ps : List (Str × Str)) (stay row : List Str) : Prop := ∀ x, LooseIn ps row x → x ∈ stay
theorem Red.swap {ps : List (Str × Str)} {stay row n : List Str} (h : Red ps stay row n) : row.Nodup → Nf ps stay n → ∀ x, LooseIn ps row x → x ∉ stay → Red ps stay (rem row x) n := by
  induction h with
  | done row => intro _ hn x hx hs; exact absurd (hn x hx) hs
  | @go row n y hy ys t ih =>
    intro hd hn x hx hs
    by_cases e : x = y
    · subst e
      exact t
    · have h1 := diamond hd hx hy e
      have h2 := diamond hd hy hx (fun z => e z.symm)
      have q := ih (rem_nodup hd) hn x h1 hs
      rw [rem_comm] at q
      exact .go y h2 ys q
theorem Red.uniq {ps : List (Str × Str)} {stay row n : List Str} (h : Red ps stay row n) : row.Nodup → Nf ps stay n → ∀ m, Red ps stay row m → Nf ps stay m → n = m := by
  induction h with
  | done row =>
    intro _ hn m hm _
    cases hm with
    | done _ => rfl
    | go x hx hs _ => exact absurd (hn x hx) hs
  | @go row n y hy ys t ih =>
    intro hd hn m hm hnm
    exact ih (rem_nodup hd) hn m (hm.swap hd hnm y hy ys) hnm
theorem Red.trans {ps : List (Str × Str)} {stay row n m : List Str} (h : Red ps stay row n) : Red ps stay n m → Red ps stay row m := by
  induction h with
  | done row => exact fun q => q
  | go x hx hs _ ih => exact fun q => .go x hx hs (ih q)
/-- who comes is loose -/
theorem come_loose (ps : List (Str × Str)) (stand : List Str) (x : Str) : LooseIn ps (comeTo ps stand x) x := by
  refine ⟨stand.take (spotOf ps stand x), stand.drop (spotOf ps stand x), by unfold comeTo; simp, ?_, ?_⟩
  · intro y hy
    unfold spotOf at hy
    cases e : lastP (frd ps x) stand with
    | none =>
      rw [e] at hy
      exact lastP_no.mp e y (List.mem_of_mem_drop hy)
    | some k =>
      rw [e] at hy
      obtain ⟨f, h1, h2, h3⟩ := lastP_some e
      obtain ⟨j, hj⟩ := List.mem_iff_getElem?.mp hy
      rw [List.getElem?_drop] at hj
      exact h3 _ y (by show k < k + 1 + j; omega) hj
  · unfold spotOf
    cases e : lastP (frd ps x) stand with
    | none =>
      refine .inr ⟨fun y hy => lastP_no.mp e y (List.mem_of_mem_take hy), ?_⟩
      show stand.drop stand.length = []
      exact List.drop_length
    | some k =>
      obtain ⟨f, h1, h2, h3⟩ := lastP_some e
      refine .inl ⟨stand.take k, f, ?_, h2⟩
      show stand.take (k + 1) = _
      rw [List.take_add_one, h1]
      rfl
theorem come_rem {ps : List (Str × Str)} {stand : List Str} {x : Str} (hd : (x :: stand).Nodup) : rem (comeTo ps stand x) x = stand := by
  have e : comeTo ps stand x = stand.take (spotOf ps stand x) ++ x :: stand.drop (spotOf ps stand x) := by
    unfold comeTo
    simp
  have hn : (comeTo ps stand x).Nodup := (come_perm ps stand x).nodup_iff.mpr hd
  rw [e] at hn ⊢
  rw [rem_split hn, List.take_append_drop]
/-- who is loose, taken out, comes in there again -/
theorem loose_come {ps : List (Str × Str)} {row : List Str} {x : Str} (irr : Irr ps) (hd : row.Nodup) (h : LooseIn ps row x) : comeTo ps (rem row x) x = row := by
  obtain ⟨a, b, e, hp⟩ := h
  have ei : row[a.length]? = some x := by rw [e]; simp
  have q := loose_iff (ps := ps) hd ei (irr x)
  rw [(looseB_iff e (irr x)).mpr hp] at q
  have z := of_decide_eq_true q
  have er : rem row x = row.take a.length ++ row.drop (a.length + 1) := by
    rw [e, rem_split (by rw [← e]; exact hd)]
    simp
  rw [er]
  exact z
/-! ### two more comparisons -/
section
variable {X : Cx}
def rNeT : R2 := fun x y H Q => ∃ (a b : Addr) (xs ys : List Str), x = .ref a ∧ y = .ref b ∧ TupAt H a (xs.map V.str) ∧ TupAt H b (ys.map V.str) ∧ Goods xs ∧ Goods ys ∧ Q (.bl (!decide (xs = ys))) H
theorem op_neT (hu : X.A.units + 64 < cLine) : OpR X (compareOp .NotEq) rNeT := by
  intro pins s σ H x y v u Q I rx ry h
  obtain ⟨a, b, xs, ys, rfl, rfl, ha, hb, g1, g2, q⟩ := h
  refine op_neD hu pins s σ H _ _ v u Q I rx ry ⟨_, _, .tup ha.sq (dp_strs xs), .tup hb.sq (dp_strs ys), sh_tuple g1, sh_tuple g2, ?_⟩
  have e : PyData.eqv (.tuple (xs.map .str)) (.tuple (ys.map .str)) = decide (xs = ys) := by
    rw [PyData.eqv, eqv_strs]
  rw [e]
  exact q
end
theorem Goods.rem {xs : List Str} {x : Str} (h : Goods xs) : Goods (Lk.rem xs x) := h.filter
theorem looseL_sub {ps : List (Str × Str)} {row : List Str} {x : Str} (h : x ∈ looseL ps row) : x ∈ row := by
  unfold looseL at h
  obtain ⟨⟨y, j⟩, hp, rfl⟩ := List.mem_map.mp h
  exact List.mem_of_getElem? (List.mem_zipIdx_iff_getElem?.mp (List.mem_filter.mp hp).1)
/-! ### promises -/
end Lk
set_option maxRecDepth 100000
set_option maxHeartbeats 4000000
namespace Lk
open PySem PySem.Spec PyProof.Rows L2

/-! ### how many that came later stand ahead -/
abbrev B3N := Addr × Str × Nat
def refsN (qs : List B3N) : List V := qs.map fun q => V.ref q.1
def PairsN (H : Hp) (qs : List B3N) : Prop := ∀ q ∈ qs, H q.1 = some (.tup [.str q.2.1, .int q.2.2])
theorem PairsN.same {H H' : Hp} {qs : List B3N} (s : Same H H') (h : PairsN H qs) : PairsN H' qs := fun b hb => s _ _ (h b hb)
theorem PairsN.oth {H H' : Hp} {b : Addr} {qs : List B3N} (s : Oth b H H') (hb : IsBox H b) (h : PairsN H qs) : PairsN H' qs := fun c hc => s _ _ (hb.ne_tup (h c hc)) (h c hc)
theorem PairsN.upd_ {H : Hp} {l : Addr} {ys : List V} {o' : HO} {qs : List B3N} (hl : H l = some (.lst ys)) (h : PairsN H qs) : PairsN (upd H l o') qs := fun c hc => (upd_ne (ne_of (h c hc) hl (fun z => nomatch z))).trans (h c hc)
theorem idx_at {order : List Str} {i : Nat} {x : Str} (hd : order.Nodup) (h : order[i]? = some x) : order.idxOf x = i := by
  have hx : x ∈ order := List.mem_of_getElem? h
  have hl : order.idxOf x < order.length := List.idxOf_lt_length_iff.mpr hx
  have e : order[order.idxOf x]? = some x := by
    rw [List.getElem?_eq_getElem hl, List.getElem_idxOf]
  exact nd_ix hd e h
/-! ### a walk's dict comprehension -/
theorem dc_it {J : It} {n : Nat} {G : Hp → Prop} {Y : Nat → Hp → V → Hp → Prop} (w : Walk J n G Y) {g : TG} {tt : TT} {tk tv : TE} {vs : List Nat} {σ : L2.St} {H1 : Hp} {D : Addr} {Qd : Hp → Prop} (Pv : Nat → Hp → Prop) (h0 : Pv 0 (upd H1 D (.dK []))) (hG : ∀ i H, i ≤ n → Pv i H → G H)
    (hs : ∀ i x H H', i < n → Pv i H → Y i H x H' → g x (wipe σ vs) H' fun σ2 H2 => wipe σ2 vs = wipe σ vs ∧ tt σ2 H2 fun b H3 =>
      if b = true then tk σ2 H3 fun y H4 => tv σ2 H4 fun z H5 => ∃ kvs k, y = kV k ∧ H5 D = some (.dK kvs) ∧ kvs.length < sizeLine ∧ Pv (i + 1) (upd H5 D (.dK (putK kvs k z))) else Pv (i + 1) H3) (hd : ∀ H, Pv n H → Qd H) :
    ∃ W : Nat → Nat → Hp → Prop, (∃ m, W 0 m (upd H1 D (.dK []))) ∧ ∀ i m H, W i m H →
      (J.stop i H ∧ Qd H) ∨ (J.go i H ∧ ∃ Nx : Hp → Prop, (∀ H', Nx H' → ∃ m', m' < m ∧ W (i + 1) m' H') ∧ ∀ x H', J.yld i H x H' → g x (wipe σ vs) H' fun σ2 H2 => wipe σ2 vs = wipe σ vs ∧ tt σ2 H2 fun b H3 =>
        if b = true then tk σ2 H3 fun y H4 => tv σ2 H4 fun z H5 => ∃ kvs k, y = kV k ∧ H5 D = some (.dK kvs) ∧ kvs.length < sizeLine ∧ Nx (upd H5 D (.dK (putK kvs k z))) else Nx H3) := by
  refine ⟨fun i m H => m = n - i ∧ i ≤ n ∧ Pv i H, ⟨n, by simp, Nat.zero_le _, h0⟩, fun i m H hW => ?_⟩
  obtain ⟨rfl, hi, p⟩ := hW
  have q := hG i H hi p
  by_cases hlt : i < n
  · exact .inr ⟨w.goes i H hlt q, Pv (i + 1), fun H' p' => ⟨n - (i + 1), by omega, rfl, hlt, p'⟩, fun x H' y => hs i x H H' hlt p (w.yields i H x H' hlt q y)⟩
  · have e : i = n := by omega
    subst e
    exact .inl ⟨w.stops H q, hd H p⟩
theorem putK_lenK {kvs : List (Key × V)} {k : Key} {v : V} : (putK kvs k v).length ≤ kvs.length + 1 := by
  unfold putK
  split
  · rw [List.length_map]
    omega
  · rw [List.length_append]
    exact Nat.le_refl _
/-! ### promises -/
end Lk
set_option maxRecDepth 100000
set_option maxHeartbeats 4000000
namespace Lk
open PySem PySem.Spec PyProof.Rows L2

/-! ### who goes, one after another: the hindmost one first -/
def someTo (ps : List (Str × Str)) (stay row : List Str) (n : Nat) : List Str := (looseTo ps row n).filter fun x => !decide (x ∈ stay)
def someL (ps : List (Str × Str)) (stay row : List Str) : List Str := (looseL ps row).filter fun x => !decide (x ∈ stay)
theorem someTo_all (ps : List (Str × Str)) (stay row : List Str) : someTo ps stay row row.length = someL ps stay row := by
  unfold someTo someL
  rw [looseTo_all]
theorem someTo_step {ps : List (Str × Str)} {stay row : List Str} {i : Nat} {x : Str} (h : row[i]? = some x) : someTo ps stay row (i + 1) = someTo ps stay row i ++ if (!decide (x ∈ stay) && looseB ps row i x) = true then [x] else [] := by
  unfold someTo
  rw [looseTo_step h, List.filter_append]
  congr 1
  by_cases c : looseB ps row i x = true
  · rw [if_pos c, c, Bool.and_true, List.filter_cons, List.filter_nil]
  · rw [if_neg c]
    simp [c]
theorem someL_sub {ps : List (Str × Str)} {stay row : List Str} {x : Str} (h : x ∈ someL ps stay row) : x ∈ looseL ps row ∧ x ∉ stay := by
  obtain ⟨h1, h2⟩ := List.mem_filter.mp h
  refine ⟨h1, ?_⟩
  simpa using h2
theorem someL_in {ps : List (Str × Str)} {stay row : List Str} {x : Str} (h : x ∈ looseL ps row) (hs : x ∉ stay) : x ∈ someL ps stay row :=
  List.mem_filter.mpr ⟨h, by simpa using hs⟩
def goneN (ps : List (Str × Str)) (stay : List Str) : Nat → List Str → List Str × List Str
  | 0, row => ([], row)
  | n + 1, row => match (someL ps stay row).getLast? with
    | none => ([], row)
    | some x => (x :: (goneN ps stay n (rem row x)).1, (goneN ps stay n (rem row x)).2)
def goneO (ps : List (Str × Str)) (stay row : List Str) : List Str := (goneN ps stay row.length row).1
def goneR (ps : List (Str × Str)) (stay row : List Str) : List Str := (goneN ps stay row.length row).2
theorem gone_none {ps : List (Str × Str)} {stay row : List Str} (h : someL ps stay row = []) : goneO ps stay row = [] ∧ goneR ps stay row = row := by
  unfold goneO goneR
  cases row.length with
  | zero => exact ⟨rfl, rfl⟩
  | succ n =>
    unfold goneN
    rw [h]
    exact ⟨rfl, rfl⟩
theorem last_mem {α : Type} {l : List α} {x : α} (h : l.getLast? = some x) : x ∈ l := by
  obtain ⟨ys, e⟩ := List.getLast?_eq_some_iff.mp h
  rw [e]
  simp
theorem gone_some {ps : List (Str × Str)} {stay row : List Str} {x : Str} (hd : row.Nodup) (h : (someL ps stay row).getLast? = some x) : goneO ps stay row = x :: goneO ps stay (rem row x) ∧ goneR ps stay row = goneR ps stay (rem row x) := by
  have hx := looseL_sub (someL_sub (last_mem h)).1
  have rl := rem_len hd hx
  unfold goneO goneR
  rw [← rl]
  show (goneN ps stay ((rem row x).length + 1) row).1 = _ ∧ _
  unfold goneN
  rw [h]
  cases (rem row x).length <;> exact ⟨rfl, rfl⟩
theorem gone_red {ps : List (Str × Str)} {stay : List Str} (irr : Irr ps) : ∀ (n : Nat) (row : List Str), row.length = n → row.Nodup → Red ps stay row (goneR ps stay row) ∧ Nf ps stay (goneR ps stay row) ∧ (goneO ps stay row).length ≤ n
  | n, row, hn, hd => by
    cases e : (someL ps stay row).getLast? with
    | none =>
      have e' := List.getLast?_eq_none_iff.mp e
      obtain ⟨g1, g2⟩ := gone_none e'
      rw [g1, g2]
      refine ⟨.done row, fun x hx => ?_, Nat.zero_le _⟩
      refine Classical.byContradiction fun c => ?_
      have := someL_in ((looseL_iff irr hd).mpr hx) c
      rw [e'] at this
      cases this
    | some x =>
      obtain ⟨g1, g2⟩ := gone_some hd e
      obtain ⟨m1, m2⟩ := someL_sub (last_mem e)
      have lx := (looseL_iff irr hd).mp m1
      have rl := rem_len hd lx.mem
      match n, hn with
      | 0, hn => omega
      | n + 1, hn =>
        obtain ⟨i1, i2, i3⟩ := gone_red irr n (rem row x) (by omega) (rem_nodup hd)
        rw [g1, g2]
        refine ⟨.go x lx m2 i1, i2, ?_⟩
        rw [List.length_cons]
        omega
theorem Red.nodup {ps : List (Str × Str)} {stay row n : List Str} (h : Red ps stay row n) : row.Nodup → n.Nodup := by
  induction h with
  | done row => exact id
  | go x h hs t ih => exact fun hd => ih (rem_nodup hd)
theorem Red.len {ps : List (Str × Str)} {stay row n : List Str} (h : Red ps stay row n) : n.length ≤ row.length := by
  induction h with
  | done row => exact Nat.le_refl _
  | go x h hs t ih => exact Nat.le_trans ih (List.length_filter_le _ _)
theorem Red.sub {ps : List (Str × Str)} {stay row n : List Str} (h : Red ps stay row n) : ∀ y ∈ n, y ∈ row := by
  induction h with
  | done row => exact fun _ h => h
  | go x h hs t ih => exact fun y hy => (List.mem_filter.mp (ih y hy)).1
theorem erase_rem {row : List Str} {i : Nat} {x : Str} (hd : row.Nodup) (h : row[i]? = some x) : row.eraseIdx i = rem row x := by
  have e := split_at h
  have hi : i < row.length := (List.getElem?_eq_some_iff.mp h).1
  have e2 : rem row x = row.take i ++ row.drop (i + 1) := by
    rw [show rem row x = rem (row.take i ++ x :: row.drop (i + 1)) x by rw [← e]]
    exact rem_split (by rw [← e]; exact hd)
  rw [e2, List.eraseIdx_eq_take_drop_succ]
theorem erase_map {α : Type} (f : α → V) (xs : List α) (i : Nat) : (xs.map f).eraseIdx i = (xs.eraseIdx i).map f := by
  rw [List.eraseIdx_eq_take_drop_succ, List.eraseIdx_eq_take_drop_succ, List.map_append, List.map_take, List.map_drop]

/-! ### promises -/
def ButAt (K : PySem.W.Frag) (H : Hp) (p : Addr) (stay : List Str) : Prop := SqL K H p (stay.map V.str) ∨ SqT K H p (stay.map V.str)
def hindV (row : List Str) (out : Option Str) (v : V) : Prop := match out with
  | none => v = .non
  | some x => ∃ i : Nat, v = .int i ∧ row[i]? = some x
/-- the but list does not change -/
def ButKeeps (K : PySem.W.Frag) (H : Hp) (p : Addr) (stay : List Str) : Prop := ∀ H', Same H H' → ButAt K H' p stay
def spHind (K : PySem.W.Frag) : Sp := fun vs H Q _ => ∃ (d r p : Addr) (ps : List (Str × Str)) (row stay : List Str), vs = [.ref d, .ref r, .ref p] ∧ KnAt H d ps ∧ H r = some (.lst (row.map V.str)) ∧ row.length ≤ 100 ∧ (∀ H', Same H H' → ButAt K H' p stay) ∧
  ∀ v H', Same H H' → hindV row (someL ps stay row).getLast? v → Q v H'
def spStayed (K : PySem.W.Frag) : Sp := fun vs H Q _ => ∃ (d r p : Addr) (ps : List (Str × Str)) (row stay : List Str), vs = [.ref d, .ref r, .ref p] ∧ KnAt H d ps ∧ RowAt H r row ∧ row.Nodup ∧ row.length ≤ 100 ∧ (∀ H', Same H H' → ButAt K H' p stay) ∧
  ∀ T g t H', Same H H' → H g = none → H' T = some (.tup [.ref g, .ref t]) → H' g = some (.lst ((goneO ps stay row).map V.str)) → TupAt H' t ((goneR ps stay row).map V.str) → Q (.ref T) H'
def spGone (K : PySem.W.Frag) : Sp := fun vs H Q _ => ∃ (a r p : Addr) (ps : List (Str × Str)) (row stay : List Str), vs = [.ref a, .ref r, .ref p] ∧ FrAt H a ps ∧ ps.length ≤ 1000 ∧ RowAt H r row ∧ row.Nodup ∧ row.length ≤ 100 ∧ (∀ H', Same H H' → ButAt K H' p stay) ∧
  ∀ T g t H', Same H H' → H g = none → H' T = some (.tup [.ref g, .ref t]) → H' g = some (.lst ((goneO ps stay row).map V.str)) → TupAt H' t ((goneR ps stay row).map V.str) → Q (.ref T) H'
end Lk
set_option maxRecDepth 100000
set_option maxHeartbeats 4000000
namespace Lk
open PySem PySem.Spec PyProof.Rows L2
section
variable {X : Cx}
end
theorem PalsAt.upd_ {H : Hp} {l a : Addr} {ys : List V} {o' : HO} {ps : List (Str × Str)} (h : PalsAt H a ps) (hl : H l = some (.lst ys)) : PalsAt (upd H l o') a ps := by
  obtain ⟨bs, h1, h2, h3⟩ := h
  exact ⟨bs, (upd_ne (ne_of h1 hl (fun z => nomatch z))).trans h1, fun c hc => (upd_ne (ne_of (h2 c hc) hl (fun z => nomatch z))).trans (h2 c hc), h3⟩
/-! ### the law's own going -/
/-! ### a def with one keyword-only parameter that has a default -/
structure Cal3 (P : Program) (w : World) (K : PySem.W.Frag) (mg : Str → Option Value) (base : Heap) (k : Nat) (x : Str) (sp : Sp) (E : Addr) : Prop where
  ex : ∃ f fd, FnOk P w K mg base CX0 k f fd ["friends", "row", "but"] sp ∧ mg x = some (.ref f) ∧ PySem.W.keepIn K (.ref f) = true ∧ KBn K fd ["friends", "row", "but"] 2 ["but"] (fun us ws => us ++ ws) (fun vs zs => vs ++ zs) ∧ KBinds K fd ["friends", "row", "but"] ["but", "row", "friends"] gRev gRev ∧ (∃ ds, Vals [V.ref E] ds ∧ Binds K fd ["friends", "row", "but"] ds) ∧
    (∃ mv : List Value, KBn K fd ["friends", "row", "but"] 0 ["row", "friends"] (fun us ws => ws.reverse ++ mv) (fun vs zs => zs.reverse ++ [V.ref E]))
  emp : ∃ (o : Obj) (n : Nat), K.lookup E = some o ∧ o.cls = .type "tuple" ∧ o.data = .seq #[] n
theorem Cal3.but {P : Program} {w : World} {K : PySem.W.Frag} {mg : Str → Option Value} {base : Heap} {k : Nat} {x : Str} {sp : Sp} {E : Addr} (C : Cal3 P w K mg base k x sp E) (H : Hp) : ButAt K H E [] := by
  obtain ⟨o, n, h1, h2, h3⟩ := C.emp
  exact .inr (.inr ⟨o, #[], n, h1, h2, h3, Nat.zero_le _, .nil⟩)
section
variable {X : Cx} {k : Nat} {x : Str} {sp : Sp} {D : Addr} {p pos : Pos} {e : Expr} {es : List Expr} {t tk : TA} {kws : List Keyword}
end
abbrev p3 : List Str := ["friends", "row", "but"]
end Lk
set_option maxRecDepth 100000
set_option maxHeartbeats 4000000
namespace Lk
open PySem PySem.Spec PyProof.Rows L2

/-! ### of those who are left each bars one of them -/
def Ahead (row : List Str) (h x : Str) : Prop := ∃ a b, row = a ++ x :: b ∧ h ∈ a
theorem frd_sym (ps : List (Str × Str)) (a b : Str) : frd ps a b = frd ps b a := by
  exact frd_comm ps a b
theorem Ahead.mem {row : List Str} {h x : Str} (k : Ahead row h x) : h ∈ row ∧ x ∈ row := by
  obtain ⟨a, b, rfl, m⟩ := k
  exact ⟨List.mem_append_left _ m, by simp⟩
theorem Ahead.lt {row : List Str} {h x : Str} {i j : Nat} (hd : row.Nodup) (k : Ahead row h x) (hi : row[i]? = some h) (hj : row[j]? = some x) : i < j := by
  obtain ⟨a, b, rfl, m⟩ := k
  have e1 : (a ++ x :: b)[a.length]? = some x := by simp
  have e2 := nd_ix hd hj e1
  obtain ⟨n, hn⟩ := List.mem_iff_getElem?.mp m
  have ln : n < a.length := (List.getElem?_eq_some_iff.mp hn).1
  have e3 : (a ++ x :: b)[n]? = some h := by
    rw [List.getElem?_append_left ln]
    exact hn
  have e4 := nd_ix hd hi e3
  omega
theorem rem_app (a b : List Str) {x y : Str} (ne : x ≠ y) : rem (a ++ x :: b) y = rem a y ++ x :: rem b y := by
  unfold rem
  rw [List.filter_append, List.filter_cons]
  simp [ne]
theorem mem_rem {row : List Str} {x y : Str} : x ∈ rem row y ↔ x ∈ row ∧ x ≠ y := by
  unfold rem
  rw [List.mem_filter]
  simp
theorem Ahead.rem {row : List Str} {h x y : Str} (k : Ahead row h x) (n1 : h ≠ y) (n2 : x ≠ y) : Ahead (Lk.rem row y) h x := by
  obtain ⟨a, b, rfl, m⟩ := k
  exact ⟨Lk.rem a y, Lk.rem b y, rem_app a b n2, mem_rem.mpr ⟨m, n1⟩⟩
theorem Ahead.of_rem {row : List Str} {h x y : Str} (hd : row.Nodup) (k : Ahead (Lk.rem row y) h x) : Ahead row h x := by
  have hx := mem_rem.mp k.mem.2
  obtain ⟨a', b', e', m⟩ := k
  obtain ⟨a, b, e⟩ := List.append_of_mem hx.1
  have e2 : Lk.rem row y = Lk.rem a y ++ x :: Lk.rem b y := by rw [e]; exact rem_app a b hx.2
  have u := split_uniq (rem_nodup hd) e' e2
  rw [u.1] at m
  exact ⟨a, b, e, (mem_rem.mp m).1⟩
theorem Red.ahead {ps : List (Str × Str)} {stay row n : List Str} (r : Red ps stay row n) : row.Nodup → ∀ {h x : Str}, Ahead n h x → Ahead row h x := by
  induction r with
  | done row => exact fun _ {h x} k => k
  | go y hy hs t ih => exact fun hd {h x} k => (ih (rem_nodup hd) k).of_rem hd
theorem Red.keeps {ps : List (Str × Str)} {stay row n : List Str} (r : Red ps stay row n) : row.Nodup → ∀ {h x : Str}, x ∈ n → Ahead row h x → frd ps x h = true → Ahead n h x := by
  induction r with
  | done row => exact fun _ {h x} _ k _ => k
  | @go row n y hy hs t ih =>
    intro hd h x hx k hf
    have nx : x ≠ y := (mem_rem.mp (t.sub x hx)).2
    have nh : h ≠ y := fun z => by
      subst z
      obtain ⟨a, b, e, q1, _⟩ := hy
      obtain ⟨a', b', e', m⟩ := k
      have hxb : x ∈ b := by
        have hx' : x ∈ a ++ h :: b := by rw [← e, e']; simp
        rcases List.mem_append.mp hx' with z | z
        · exfalso
          obtain ⟨i, hi⟩ := List.mem_iff_getElem?.mp z
          have li : i < a.length := (List.getElem?_eq_some_iff.mp hi).1
          have r1 : row[i]? = some x := by rw [e, List.getElem?_append_left li]; exact hi
          have r2 : row[a.length]? = some h := by rw [e]; simp
          have := Ahead.lt hd ⟨a', b', e', m⟩ r2 r1
          omega
        · rcases List.mem_cons.mp z with z | z
          · exact absurd z nx
          · exact z
      have := q1 x hxb
      rw [frd_sym] at this
      rw [this] at hf
      cases hf
    exact ih (rem_nodup hd) hx (k.rem nh nx) hf
theorem optW_mem (w : Str) : w ∈ optW true w := by
  unfold optW
  simp
theorem words_friend {ps : List (Str × Str)} {row : List Str} {one other : Str} {i j : Nat} (h : i < j) (f : frd ps one other = true) : wordsOf ps row one other i j ≠ [] := fun z => by
  have m : ("friend" : Str) ∈ wordsOf ps row one other i j := by
    unfold wordsOf
    refine List.mem_append_right _ ?_
    rw [decide_eq_true h, f]
    exact optW_mem _
  rw [z] at m
  cases m
theorem words_behind {ps : List (Str × Str)} {row : List Str} {one other : Str} {i j : Nat} (h : i < j) (f : lastP (frd ps one) (row.take i) = none) : wordsOf ps row one other i j ≠ [] := fun z => by
  have m : ("behind" : Str) ∈ wordsOf ps row one other i j := by
    unfold wordsOf
    refine List.mem_append_left _ (List.mem_append_left _ ?_)
    rw [decide_eq_true h, decide_eq_true f]
    exact optW_mem _
  rw [z] at m
  cases m
theorem words_between {ps : List (Str × Str)} {row : List Str} {one other : Str} {i j k : Nat} (f : lastP (frd ps one) (row.take i) = some k) (h1 : k < j) (h2 : j < i) : wordsOf ps row one other i j ≠ [] := fun z => by
  have m : ("between" : Str) ∈ wordsOf ps row one other i j := by
    unfold wordsOf
    refine List.mem_append_left _ (List.mem_append_right _ ?_)
    rw [f]
    show _ ∈ optW (decide (k < j) && decide (j < i)) "between"
    rw [decide_eq_true h1, decide_eq_true h2]
    exact optW_mem _
  rw [z] at m
  cases m
theorem words_self {ps : List (Str × Str)} {row : List Str} {x : Str} {i : Nat} (hl : i ≤ row.length) : wordsOf ps row x x i i = [] := by
  unfold wordsOf
  rw [decide_eq_false (Nat.lt_irrefl i), Bool.and_false, Bool.false_and]
  have : btw i i (lastP (frd ps x) (row.take i)) = false := by
    unfold btw
    split
    · rfl
    · rw [decide_eq_false (Nat.lt_irrefl i), Bool.and_false]
  rw [this]
  rfl
theorem bars_left {ps : List (Str × Str)} {row left : List Str} {x : Str} {i : Nat} (hd : row.Nodup) (r : Red ps [] row left) (nf : Nf ps [] left) (hx : x ∈ left) (hi : row[i]? = some x) : ∃ z j, z ∈ left ∧ row[j]? = some z ∧ wordsOf ps row x z i j ≠ [] := by
  have ndl := r.nodup hd
  obtain ⟨a, b, e⟩ := List.append_of_mem hx
  have nl : ¬ LooseP ps a b x := fun z => by
    have := nf x ⟨a, b, e, z⟩
    cases this
  have place : ∀ z ∈ left, ∃ j, row[j]? = some z := fun z hz => List.mem_iff_getElem?.mp (r.sub z hz)
  have behind : ∀ z ∈ b, Ahead left x z := fun z hz => by
    obtain ⟨b1, b2, eb⟩ := List.append_of_mem hz
    exact ⟨a ++ x :: b1, b2, by rw [e, eb]; simp, by simp⟩
  by_cases c : ∃ y ∈ b, frd ps x y = true
  · obtain ⟨y, hy, f⟩ := c
    have my : y ∈ left := by rw [e]; simp [hy]
    obtain ⟨j, hj⟩ := place y my
    exact ⟨y, j, my, hj, words_friend ((r.ahead hd (behind y hy)).lt hd hi hj) f⟩
  · have nb : ∀ y ∈ b, frd ps x y = false := fun y hy => by
      cases f : frd ps x y with
      | false => rfl
      | true => exact absurd ⟨y, hy, f⟩ c
    have ahd : ∀ y ∈ a, Ahead left y x := fun y hy => ⟨a, b, e, hy⟩
    cases hk : lastP (frd ps x) (row.take i) with
    | none =>
      have na := lastP_no.mp hk
      have nfa : ∀ y ∈ a, frd ps x y = false := fun y hy => by
        obtain ⟨j, hj⟩ := place y (ahd y hy).mem.1
        have lt := (r.ahead hd (ahd y hy)).lt hd hj hi
        refine na y (List.mem_iff_getElem?.mpr ⟨j, ?_⟩)
        rw [List.getElem?_take, if_pos lt]
        exact hj
      cases b with
      | nil => exact absurd ⟨nb, .inr ⟨nfa, rfl⟩⟩ nl
      | cons z b' =>
        have mz : z ∈ left := by rw [e]; simp
        obtain ⟨j, hj⟩ := place z mz
        exact ⟨z, j, mz, hj, words_behind ((r.ahead hd (behind z (List.mem_cons_self ..))).lt hd hi hj) hk⟩
    | some k =>
      obtain ⟨h, h1, h2, h3⟩ := lastP_some hk
      have hki : k < i := by
        have := lastP_lt hk
        rw [List.length_take] at this
        omega
      rw [List.getElem?_take, if_pos hki] at h1
      have ahr : Ahead row h x := by
        have sp := split_at hi
        refine ⟨row.take i, row.drop (i + 1), sp, List.mem_iff_getElem?.mpr ⟨k, ?_⟩⟩
        rw [List.getElem?_take, if_pos hki]
        exact h1
      obtain ⟨a', b', e', m⟩ := r.keeps hd hx ahr h2
      have u := split_uniq ndl e' e
      rw [u.1] at m
      obtain ⟨a1, a2, ea⟩ := List.append_of_mem m
      cases a2 with
      | nil => exact absurd ⟨nb, .inl ⟨a1, h, ea, h2⟩⟩ nl
      | cons z a3 =>
        have mz : z ∈ left := by rw [e, ea]; simp
        obtain ⟨j, hj⟩ := place z mz
        have k1 : Ahead left h z := ⟨a1 ++ [h], a3 ++ x :: b, by rw [e, ea]; simp, by simp⟩
        have k2 : Ahead left z x := ahd z (by rw [ea]; simp)
        exact ⟨z, j, mz, hj, words_between hk ((r.ahead hd k1).lt hd h1 hj) ((r.ahead hd k2).lt hd hj hi)⟩
theorem nd_len : ∀ (l m : List Str), l.Nodup → (∀ x ∈ l, x ∈ m) → l.length ≤ m.length
  | [], _, _, _ => Nat.zero_le _
  | x :: l, m, h, s => by
    obtain ⟨n1, n2⟩ := List.nodup_cons.mp h
    obtain ⟨a, b, e⟩ := List.append_of_mem (s x (List.mem_cons_self ..))
    have ih := nd_len l (a ++ b) n2 fun y hy => by
      have ne : y ≠ x := fun z => n1 (z ▸ hy)
      have := s y (List.mem_cons_of_mem _ hy)
      rw [e] at this
      rcases List.mem_append.mp this with z | z
      · exact List.mem_append_left _ z
      · rcases List.mem_cons.mp z with z | z
        · exact absurd z ne
        · exact List.mem_append_right _ z
    rw [List.length_append] at ih
    rw [e, List.length_append, List.length_cons, List.length_cons]
    omega
/-! ### rings -/
def wordsAt (ps : List (Str × Str)) (row : List Str) (a b : Str) : List Str := wordsOf ps row a b (row.idxOf a) (row.idxOf b)
def barredL (ps : List (Str × Str)) (row left : List Str) (who : Str) : List (Str × Str) := left.flatMap fun o => (wordsAt ps row who o).map fun w => (o, w)
def nextB (ps : List (Str × Str)) (row left : List Str) (who : Str) : Str × Str := (barredL ps row left who).headD (who, "")
def ringN (ps : List (Str × Str)) (row left : List Str) : Nat → List (Str × Str) → Str → List (Str × Str)
  | 0, path, _ => path
  | n + 1, path, who => if who ∈ path.map (·.1) then path.drop ((path.map (·.1)).idxOf who) else ringN ps row left n (path ++ [(who, (nextB ps row left who).2)]) (nextB ps row left who).1
def ringOf (ps : List (Str × Str)) (row left : List Str) : List (Str × Str) := ringN ps row left (left.length + 1) [] (left.headD "")
theorem barred_mem {ps : List (Str × Str)} {row left : List Str} {who : Str} {q : Str × Str} : q ∈ barredL ps row left who ↔ q.1 ∈ left ∧ q.2 ∈ wordsAt ps row who q.1 := by
  unfold barredL
  rw [List.mem_flatMap]
  constructor
  · rintro ⟨o, ho, m⟩
    obtain ⟨w, hw, rfl⟩ := List.mem_map.mp m
    exact ⟨ho, hw⟩
  · rintro ⟨h1, h2⟩
    exact ⟨q.1, h1, List.mem_map.mpr ⟨q.2, h2, rfl⟩⟩
theorem barred_ne {ps : List (Str × Str)} {row left : List Str} {x : Str} (hd : row.Nodup) (r : Red ps [] row left) (nf : Nf ps [] left) (hx : x ∈ left) : barredL ps row left x ≠ [] := fun e => by
  obtain ⟨i, hi⟩ := List.mem_iff_getElem?.mp (r.sub x hx)
  obtain ⟨z, j, mz, hj, hw⟩ := bars_left hd r nf hx hi
  obtain ⟨w, hw⟩ := List.exists_mem_of_ne_nil _ hw
  have m : (z, w) ∈ barredL ps row left x := barred_mem.mpr ⟨mz, by
    show w ∈ wordsOf ps row x z (row.idxOf x) (row.idxOf z)
    rw [idx_at hd hi, idx_at hd hj]
    exact hw⟩
  rw [e] at m
  cases m
theorem next_mem {ps : List (Str × Str)} {row left : List Str} {x : Str} (h : barredL ps row left x ≠ []) : nextB ps row left x ∈ barredL ps row left x := by
  unfold nextB
  cases e : barredL ps row left x with
  | nil => exact absurd e h
  | cons q l => exact List.mem_cons_self ..
structure RingOk (ps : List (Str × Str)) (row left : List Str) (ring : List (Str × Str)) : Prop where
  two : 2 ≤ ring.length
  nd : (ring.map (·.1)).Nodup
  sub : ∀ x ∈ ring.map (·.1), x ∈ left
  bar : ∀ (i : Nat) (x w y : Str), ring[i]? = some (x, w) → ((ring.map (·.1)).drop 1 ++ (ring.map (·.1)).take 1)[i]? = some y → w ∈ wordsAt ps row x y
theorem ring_ok {ps : List (Str × Str)} {row left : List Str} (hd : row.Nodup) (r : Red ps [] row left) (nf : Nf ps [] left) : ∀ (m : Nat) (path : List (Str × Str)) (who : Str), m + path.length = left.length + 1 → (path.map (·.1)).Nodup → (∀ x ∈ path.map (·.1), x ∈ left) → who ∈ left →
    (∀ (i : Nat) (x w : Str), path[i]? = some (x, w) → ∃ y, (path.map (·.1) ++ [who])[i + 1]? = some y ∧ w ∈ wordsAt ps row x y) → RingOk ps row left (ringN ps row left m path who)
  | 0, path, who, hm, hn, hs, hw, hc => by
    have := nd_len _ _ hn hs
    rw [List.length_map] at this
    omega
  | m + 1, path, who, hm, hn, hs, hw, hc => by
    unfold ringN
    by_cases c : who ∈ path.map (·.1)
    · rw [if_pos c]
      have hk : (path.map (·.1)).idxOf who < (path.map (·.1)).length := List.idxOf_lt_length_iff.mpr c
      have ek : (path.map (·.1))[(path.map (·.1)).idxOf who]? = some who := by rw [List.getElem?_eq_getElem hk, List.getElem_idxOf]
      generalize (path.map (·.1)).idxOf who = k at hk ek
      rw [List.length_map] at hk
      have bar : ∀ (i : Nat) (x w y : Str), (path.drop k)[i]? = some (x, w) → (((path.drop k).map (·.1)).drop 1 ++ ((path.drop k).map (·.1)).take 1)[i]? = some y → w ∈ wordsAt ps row x y := by
        intro i x w y h1 h2
        rw [List.getElem?_drop] at h1
        obtain ⟨y', h3, h4⟩ := hc _ x w h1
        have et : ((path.drop k).map (·.1)).take 1 = [who] := by
          rw [List.map_drop]
          have hne : (path.map (·.1)).drop k = who :: (path.map (·.1)).drop (k + 1) := by
            rw [List.getElem?_eq_some_iff] at ek
            obtain ⟨q1, q2⟩ := ek
            rw [List.drop_eq_getElem_cons q1, q2]
          rw [hne]
          rfl
        have ed : (path.map (·.1) ++ [who])[k + i + 1]? = (((path.drop k).map (·.1)).drop 1 ++ ((path.drop k).map (·.1)).take 1)[i]? := by
          rw [et, List.map_drop, List.drop_drop, ← List.drop_append_of_le_length (l₂ := [who]) (by rw [List.length_map]; omega), List.getElem?_drop]
          congr 1
          omega
        rw [ed, h2] at h3
        cases h3
        exact h4
      have nd' : ((path.drop k).map (·.1)).Nodup := by
        rw [List.map_drop]
        exact hn.sublist (List.drop_sublist _ _)
      refine ⟨?_, nd', fun x hx => hs x ?_, bar⟩
      · rw [List.length_drop]
        refine Classical.byContradiction fun z => ?_
        have e1 : k + 1 = path.length := by omega
        obtain ⟨⟨x, w⟩, hx⟩ : ∃ q, path[k]? = some q := ⟨path[k]'hk, List.getElem?_eq_getElem hk⟩
        have ex : x = who := by
          rw [List.getElem?_map, hx] at ek
          exact Option.some.inj ek
        have ed : (path.drop k) = [(x, w)] := by
          have q := (List.getElem?_eq_some_iff.mp hx)
          rw [List.drop_eq_getElem_cons hk, q.2, List.drop_eq_nil_of_le (by omega)]
        have := bar 0 x w x (by rw [ed]; rfl) (by rw [ed]; rfl)
        have hxr : row.idxOf x ≤ row.length := List.idxOf_le_length
        unfold wordsAt at this
        rw [words_self hxr] at this
        cases this
      · rw [List.map_drop] at hx
        exact List.mem_of_mem_drop hx
    · rw [if_neg c]
      have nx := barred_mem.mp (next_mem (barred_ne hd r nf hw))
      refine ring_ok hd r nf m _ _ ?_ ?_ ?_ nx.1 ?_
      · rw [List.length_append]
        show m + (path.length + 1) = _
        omega
      · rw [List.map_append]
        refine List.nodup_append.mpr ⟨hn, by simp, ?_⟩
        intro x hx y hy
        have ey : y = who := by simpa using hy
        rw [ey]
        exact fun z => c (z ▸ hx)
      · intro x hx
        rw [List.map_append] at hx
        rcases List.mem_append.mp hx with z | z
        · exact hs x z
        · have : x = who := by simpa using z
          rw [this]
          exact hw
      · intro i x w h
        rw [List.map_append]
        show ∃ y, (path.map (·.1) ++ [who] ++ [(nextB ps row left who).1])[i + 1]? = some y ∧ _
        by_cases hi : i < path.length
        · rw [List.getElem?_append_left hi] at h
          obtain ⟨y, h1, h2⟩ := hc i x w h
          refine ⟨y, ?_, h2⟩
          rw [List.getElem?_append_left (by rw [List.length_append, List.length_map]; show i + 1 < path.length + 1; omega)]
          exact h1
        · have li : i < (path ++ [(who, (nextB ps row left who).2)]).length := (List.getElem?_eq_some_iff.mp h).1
          rw [List.length_append] at li
          have ei : i = path.length := by
            have : i < path.length + 1 := li
            omega
          subst ei
          have : (path ++ [(who, (nextB ps row left who).2)])[path.length]? = some (who, (nextB ps row left who).2) := by simp
          rw [this] at h
          cases h
          refine ⟨(nextB ps row left who).1, ?_, nx.2⟩
          have le : (path.map (·.1) ++ [who]).length = path.length + 1 := by rw [List.length_append, List.length_map]; rfl
          rw [← le]
          simp
theorem ringOf_ok {ps : List (Str × Str)} {row left : List Str} (hd : row.Nodup) (r : Red ps [] row left) (nf : Nf ps [] left) (ne : left ≠ []) : RingOk ps row left (ringOf ps row left) := by
  refine ring_ok hd r nf _ [] _ rfl List.nodup_nil (fun _ h => nomatch h) ?_ (fun i x w h => by simp at h)
  cases left with
  | nil => exact absurd rfl ne
  | cons a l => exact List.mem_cons_self ..
theorem ring_len {ps : List (Str × Str)} {row left : List Str} (h : RingOk ps row left ring) : ring.length ≤ left.length := by
  have := nd_len _ _ h.nd h.sub
  rw [List.length_map] at this
  exact this
/-! ### walks within walks -/
theorem lc1_it {J : It} {n : Nat} {G : Hp → Prop} {Y : Nat → Hp → V → Hp → Prop} (w : Walk J n G Y) {g : TG} {tt : TT} {te : TE} {vs : List Nat} {σ : L2.St} {H1 : Hp} {D : Addr} {Qd : Hp → Prop} (Pv : Nat → Hp → Prop) (h0 : Pv 0 H1) (hG : ∀ i H, i ≤ n → Pv i H → G H)
    (hs : ∀ i x H H', i < n → Pv i H → Y i H x H' → g x (wipe σ vs) H' fun σ2 H2 => wipe σ2 vs = wipe σ vs ∧ tt σ2 H2 fun b H3 =>
      if b = true then te σ2 H3 fun y H4 => ∃ acc, H4 D = some (.lst acc) ∧ acc.length < sizeLine ∧ Pv (i + 1) (upd H4 D (.lst (acc ++ [y]))) else Pv (i + 1) H3) (hd : ∀ H, Pv n H → Qd H) :
    ∃ W : Nat → Nat → Hp → Prop, (∃ m, W 0 m H1) ∧ ∀ i m H, W i m H →
      (J.stop i H ∧ Qd H) ∨ (J.go i H ∧ ∃ Nx : Hp → Prop, (∀ H', Nx H' → ∃ m', m' < m ∧ W (i + 1) m' H') ∧ ∀ x H', J.yld i H x H' → g x (wipe σ vs) H' fun σ2 H2 => wipe σ2 vs = wipe σ vs ∧ tt σ2 H2 fun b H3 =>
        if b = true then te σ2 H3 fun y H4 => ∃ acc, H4 D = some (.lst acc) ∧ acc.length < sizeLine ∧ Nx (upd H4 D (.lst (acc ++ [y]))) else Nx H3) := by
  refine ⟨fun i m H => m = n - i ∧ i ≤ n ∧ Pv i H, ⟨n, by simp, Nat.zero_le _, h0⟩, fun i m H hW => ?_⟩
  obtain ⟨rfl, hi, p⟩ := hW
  have q := hG i H hi p
  by_cases hlt : i < n
  · exact .inr ⟨w.goes i H hlt q, Pv (i + 1), fun H' p' => ⟨n - (i + 1), by omega, rfl, hlt, p'⟩, fun x H' y => hs i x H H' hlt p (w.yields i H x H' hlt q y)⟩
  · have e : i = n := by omega
    subst e
    exact .inl ⟨w.stops H q, hd H p⟩
theorem lc2_it {J : It} {n : Nat} {G : Hp → Prop} {Y : Nat → Hp → V → Hp → Prop} (w : Walk J n G Y) {g : TG} {tt : TT} {wi1 : TI} {g1 : TG} {tt1 : TT} {te : TE} {vs vs1 : List Nat} {σ : L2.St} {H1 : Hp} {D : Addr} {Qd : Hp → Prop} (Pv : Nat → Hp → Prop) (h0 : Pv 0 (upd H1 D (.lst []))) (hG : ∀ i H, i ≤ n → Pv i H → G H)
    (hs : ∀ i x H H', i < n → Pv i H → Y i H x H' → g x (wipe σ vs) H' fun σ2 H2 => wipe σ2 vs = wipe σ vs ∧ tt σ2 H2 fun b H3 =>
      if b = true then wi1 σ2 H3 fun J1 H4 => ∃ W1 : Nat → Nat → Hp → Prop, (∃ m, W1 0 m H4) ∧ ∀ j k H, W1 j k H →
        (J1.stop j H ∧ Pv (i + 1) H) ∨ (J1.go j H ∧ ∃ Nx1 : Hp → Prop, (∀ H', Nx1 H' → ∃ k', k' < k ∧ W1 (j + 1) k' H') ∧ ∀ x H', J1.yld j H x H' → g1 x (wipe σ2 vs1) H' fun σ3 H5 => wipe σ3 vs1 = wipe σ2 vs1 ∧ tt1 σ3 H5 fun b H6 =>
          if b = true then te σ3 H6 fun y H7 => ∃ acc, H7 D = some (.lst acc) ∧ acc.length < sizeLine ∧ Nx1 (upd H7 D (.lst (acc ++ [y]))) else Nx1 H6)
      else Pv (i + 1) H3) (hd : ∀ H, Pv n H → Qd H) :
    ∃ W : Nat → Nat → Hp → Prop, (∃ m, W 0 m (upd H1 D (.lst []))) ∧ ∀ i m H, W i m H →
      (J.stop i H ∧ Qd H) ∨ (J.go i H ∧ ∃ Nx : Hp → Prop, (∀ H', Nx H' → ∃ m', m' < m ∧ W (i + 1) m' H') ∧ ∀ x H', J.yld i H x H' → g x (wipe σ vs) H' fun σ2 H2 => wipe σ2 vs = wipe σ vs ∧ tt σ2 H2 fun b H3 =>
        if b = true then wi1 σ2 H3 fun J1 H4 => ∃ W1 : Nat → Nat → Hp → Prop, (∃ m, W1 0 m H4) ∧ ∀ j k H, W1 j k H →
          (J1.stop j H ∧ Nx H) ∨ (J1.go j H ∧ ∃ Nx1 : Hp → Prop, (∀ H', Nx1 H' → ∃ k', k' < k ∧ W1 (j + 1) k' H') ∧ ∀ x H', J1.yld j H x H' → g1 x (wipe σ2 vs1) H' fun σ3 H5 => wipe σ3 vs1 = wipe σ2 vs1 ∧ tt1 σ3 H5 fun b H6 =>
            if b = true then te σ3 H6 fun y H7 => ∃ acc, H7 D = some (.lst acc) ∧ acc.length < sizeLine ∧ Nx1 (upd H7 D (.lst (acc ++ [y]))) else Nx1 H6)
        else Nx H3) := by
  refine ⟨fun i m H => m = n - i ∧ i ≤ n ∧ Pv i H, ⟨n, by simp, Nat.zero_le _, h0⟩, fun i m H hW => ?_⟩
  obtain ⟨rfl, hi, p⟩ := hW
  have q := hG i H hi p
  by_cases hlt : i < n
  · exact .inr ⟨w.goes i H hlt q, Pv (i + 1), fun H' p' => ⟨n - (i + 1), by omega, rfl, hlt, p'⟩, fun x H' y => hs i x H H' hlt p (w.yields i H x H' hlt q y)⟩
  · have e : i = n := by omega
    subst e
    exact .inl ⟨w.stops H q, hd H p⟩
/-! ### promises -/
/-- what order_of tells: p the list in it -/
def OrdAt (H : Hp) (p : Addr) (word : Str) (ps : List (Str × Str)) (row : List Str) : Prop :=
  (goneR ps [] row = [] ∧ word = "order" ∧ H p = some (.lst ((goneO ps [] row).reverse.map V.str))) ∨ (goneR ps [] row ≠ [] ∧ word = "ring" ∧ ∃ bs : List B3, H p = some (.lst (refs bs)) ∧ PairsAt H bs ∧ bs.map (·.2) = ringOf ps row (goneR ps [] row))
theorem OrdAt.same {H H' : Hp} {p : Addr} {word : Str} {ps : List (Str × Str)} {row : List Str} (s : Same H H') (h : OrdAt H p word ps row) : OrdAt H' p word ps row :=
  h.elim (fun ⟨h1, h2, h3⟩ => .inl ⟨h1, h2, s _ _ h3⟩) (fun ⟨h1, h2, bs, h3, h4, h5⟩ => .inr ⟨h1, h2, bs, s _ _ h3, h4.same s, h5⟩)
end Lk
set_option maxRecDepth 100000
set_option maxHeartbeats 4000000
namespace Lk
open PySem PySem.Spec PyProof.Rows L2
/-! ### len(set(xs)), xs a list of texts, none of them twice -/
section
variable {P : Program} {w : World} {A : Around} {E : Value → Shared → Prop} {s : Shared}
end
section
variable {X : Cx}
end
end Lk
set_option maxRecDepth 100000
set_option maxHeartbeats 4000000
namespace Lk
open PySem PySem.Spec PyProof.Rows L2

/-! ### who stands ahead of whom, by places -/
theorem ix_at {row : List Str} {x : Str} (hx : x ∈ row) : row[row.idxOf x]? = some x := by
  have hl : row.idxOf x < row.length := List.idxOf_lt_length_iff.mpr hx
  rw [List.getElem?_eq_getElem hl, List.getElem_idxOf]
theorem ahead_ix {row : List Str} {x y : Str} (hd : row.Nodup) : Ahead row x y ↔ x ∈ row ∧ y ∈ row ∧ row.idxOf x < row.idxOf y := by
  constructor
  · intro k
    exact ⟨k.mem.1, k.mem.2, k.lt hd (ix_at k.mem.1) (ix_at k.mem.2)⟩
  · rintro ⟨hx, hy, h⟩
    refine ⟨row.take (row.idxOf y), row.drop (row.idxOf y + 1), split_at (ix_at hy), ?_⟩
    exact List.mem_iff_getElem?.mpr ⟨row.idxOf x, by rw [List.getElem?_take, if_pos h]; exact ix_at hx⟩
theorem mem_take_ix {row : List Str} {x : Str} {i : Nat} (hd : row.Nodup) : x ∈ row.take i ↔ x ∈ row ∧ row.idxOf x < i := by
  constructor
  · intro h
    obtain ⟨j, hj⟩ := List.mem_iff_getElem?.mp h
    rw [List.getElem?_take] at hj
    split at hj
    · rename_i c
      rw [idx_at hd hj]
      exact ⟨List.mem_of_getElem? hj, c⟩
    · cases hj
  · rintro ⟨h1, h2⟩
    exact List.mem_iff_getElem?.mpr ⟨row.idxOf x, by rw [List.getElem?_take, if_pos h2]; exact ix_at h1⟩
theorem rem_ix {row : List Str} {x u v : Str} (hd : row.Nodup) (hu : u ∈ row) (hv : v ∈ row) (nu : u ≠ x) (nv : v ≠ x) : (rem row x).idxOf u < (rem row x).idxOf v ↔ row.idxOf u < row.idxOf v := by
  have mu := mem_rem.mpr ⟨hu, nu⟩
  have mv := mem_rem.mpr ⟨hv, nv⟩
  constructor
  · intro h
    exact ((ahead_ix hd).mp (((ahead_ix (rem_nodup hd)).mpr ⟨mu, mv, h⟩).of_rem hd)).2.2
  · intro h
    exact ((ahead_ix (rem_nodup hd)).mp (((ahead_ix hd).mpr ⟨hu, hv, h⟩).rem nu nv)).2.2

/-! ### by which word one bars another -/
def BarsBy (ps : List (Str × Str)) (row : List Str) (a b w : Str) : Prop :=
  (w = "behind" ∧ (∀ h ∈ row, row.idxOf h < row.idxOf a → frd ps a h = false) ∧ row.idxOf a < row.idxOf b) ∨
  (w = "between" ∧ (∃ h ∈ row, frd ps a h = true ∧ row.idxOf h < row.idxOf a ∧ (∀ g ∈ row, row.idxOf g < row.idxOf a → frd ps a g = true → row.idxOf g ≤ row.idxOf h) ∧ row.idxOf h < row.idxOf b) ∧ row.idxOf b < row.idxOf a) ∨
  (w = "friend" ∧ row.idxOf a < row.idxOf b ∧ frd ps a b = true)
def Bars (ps : List (Str × Str)) (row : List Str) (a b : Str) : Prop := ∃ w, BarsBy ps row a b w
theorem optW_iff {c : Bool} {v w : Str} : w ∈ optW c v ↔ c = true ∧ w = v := by
  unfold optW
  cases c <;> simp
theorem btw_iff {i j : Nat} {o : Option Nat} : btw i j o = true ↔ ∃ k, o = some k ∧ k < j ∧ j < i := by
  cases o with
  | none => simp [btw]
  | some k => simp [btw]
theorem words_mem {ps : List (Str × Str)} {row : List Str} {a b w : Str} (hd : row.Nodup) (ha : a ∈ row) (hb : b ∈ row) : w ∈ wordsAt ps row a b ↔ BarsBy ps row a b w := by
  unfold wordsAt wordsOf BarsBy
  rw [List.mem_append, List.mem_append, optW_iff, optW_iff, optW_iff, btw_iff]
  have e1 : lastP (frd ps a) (row.take (row.idxOf a)) = none ↔ ∀ h ∈ row, row.idxOf h < row.idxOf a → frd ps a h = false := by
    rw [lastP_no]
    constructor
    · exact fun q h h1 h2 => q h ((mem_take_ix hd).mpr ⟨h1, h2⟩)
    · exact fun q h h1 => q h ((mem_take_ix hd).mp h1).1 ((mem_take_ix hd).mp h1).2
  have e2 : (∃ k, lastP (frd ps a) (row.take (row.idxOf a)) = some k ∧ k < row.idxOf b ∧ row.idxOf b < row.idxOf a) ↔ (∃ h ∈ row, frd ps a h = true ∧ row.idxOf h < row.idxOf a ∧ (∀ g ∈ row, row.idxOf g < row.idxOf a → frd ps a g = true → row.idxOf g ≤ row.idxOf h) ∧ row.idxOf h < row.idxOf b) ∧ row.idxOf b < row.idxOf a := by
    constructor
    · rintro ⟨k, h1, h2, h3⟩
      obtain ⟨x, q1, q2, q3⟩ := lastP_some h1
      have mx := (mem_take_ix hd).mp (List.mem_of_getElem? q1)
      have ex : row.idxOf x = k := by
        rw [List.getElem?_take] at q1
        split at q1
        · exact idx_at hd q1
        · cases q1
      refine ⟨⟨x, mx.1, q2, mx.2, fun g g1 g2 g3 => ?_, by omega⟩, h3⟩
      refine Classical.byContradiction fun c => ?_
      have := q3 (row.idxOf g) g (by omega) (by rw [List.getElem?_take, if_pos g2]; exact ix_at g1)
      rw [g3] at this
      cases this
    · rintro ⟨⟨h, h1, h2, h3, h4, h5⟩, h6⟩
      cases e : lastP (frd ps a) (row.take (row.idxOf a)) with
      | none =>
        have := e1.mp e h h1 h3
        rw [h2] at this
        cases this
      | some k =>
        obtain ⟨x, q1, q2, q3⟩ := lastP_some e
        have mx := (mem_take_ix hd).mp (List.mem_of_getElem? q1)
        have ex : row.idxOf x = k := by
          rw [List.getElem?_take] at q1
          split at q1
          · exact idx_at hd q1
          · cases q1
        have := h4 x mx.1 mx.2 q2
        exact ⟨k, rfl, by omega, h6⟩
  constructor
  · rintro ((⟨c, e⟩ | ⟨c, e⟩) | ⟨c, e⟩)
    · obtain ⟨c1, c2⟩ := (Bool.and_eq_true _ _ ▸ c : _ ∧ _)
      exact .inl ⟨e, e1.mp (of_decide_eq_true c1), of_decide_eq_true c2⟩
    · exact .inr (.inl ⟨e, e2.mp c⟩)
    · obtain ⟨c1, c2⟩ := (Bool.and_eq_true _ _ ▸ c : _ ∧ _)
      exact .inr (.inr ⟨e, of_decide_eq_true c1, c2⟩)
  · rintro (⟨e, c1, c2⟩ | ⟨e, c⟩ | ⟨e, c1, c2⟩)
    · exact .inl (.inl ⟨by rw [decide_eq_true (e1.mpr c1), decide_eq_true c2]; rfl, e⟩)
    · exact .inl (.inr ⟨e2.mpr c, e⟩)
    · exact .inr ⟨by rw [decide_eq_true c1, c2]; rfl, e⟩
/-- who can have come last, by places -/
theorem loose_ix {ps : List (Str × Str)} {row : List Str} {x : Str} (hd : row.Nodup) : LooseIn ps row x ↔ x ∈ row ∧ (∀ y ∈ row, row.idxOf x < row.idxOf y → frd ps x y = false) ∧ ((∃ f ∈ row, row.idxOf f + 1 = row.idxOf x ∧ frd ps x f = true) ∨ ((∀ y ∈ row, row.idxOf y < row.idxOf x → frd ps x y = false) ∧ ∀ y ∈ row, ¬ row.idxOf x < row.idxOf y)) := by
  have parts : ∀ {a b : List Str}, row = a ++ x :: b → row.idxOf x = a.length ∧ (∀ y, y ∈ a ↔ y ∈ row ∧ row.idxOf y < row.idxOf x) ∧ (∀ y, y ∈ b ↔ y ∈ row ∧ row.idxOf x < row.idxOf y) := by
    intro a b e
    have ex : row.idxOf x = a.length := idx_at hd (by rw [e]; simp)
    have ta : row.take (row.idxOf x) = a := by rw [ex, e]; simp
    refine ⟨ex, fun y => ?_, fun y => ?_⟩
    · rw [← ta, mem_take_ix hd]
    · constructor
      · intro hy
        obtain ⟨j, hj⟩ := List.mem_iff_getElem?.mp hy
        have g : row[a.length + 1 + j]? = some y := by
          rw [e, List.getElem?_append_right (by omega), show a.length + 1 + j - a.length = j + 1 by omega, List.getElem?_cons_succ]
          exact hj
        refine ⟨List.mem_of_getElem? g, ?_⟩
        rw [idx_at hd g]
        omega
      · rintro ⟨hy, h⟩
        have hm : y ∈ a ++ x :: b := e ▸ hy
        rcases List.mem_append.mp hm with m | m
        · have := ((mem_take_ix hd).mp (ta.symm ▸ m : y ∈ row.take (row.idxOf x))).2
          omega
        · rcases List.mem_cons.mp m with z | z
          · subst z
            omega
          · exact z
  constructor
  · rintro ⟨a, b, e, q1, q2⟩
    obtain ⟨ex, ha, hb⟩ := parts e
    refine ⟨by rw [e]; simp, fun y hy h => q1 y ((hb y).mpr ⟨hy, h⟩), ?_⟩
    rcases q2 with ⟨a', f, ea, hf⟩ | ⟨h1, h2⟩
    · refine .inl ⟨f, ((ha f).mp (by rw [ea]; simp)).1, ?_, hf⟩
      have : row.idxOf f = a'.length := idx_at hd (by rw [e, ea]; simp)
      rw [this, ex, ea]
      simp
    · refine .inr ⟨fun y hy h => h1 y ((ha y).mpr ⟨hy, h⟩), fun y hy h => ?_⟩
      have := (hb y).mpr ⟨hy, h⟩
      rw [h2] at this
      cases this
  · rintro ⟨hx, q1, q2⟩
    obtain ⟨a, b, e⟩ := List.append_of_mem hx
    obtain ⟨ex, ha, hb⟩ := parts e
    refine ⟨a, b, e, fun y hy => q1 y ((hb y).mp hy).1 ((hb y).mp hy).2, ?_⟩
    rcases q2 with ⟨f, hf, h1, h2⟩ | ⟨h1, h2⟩
    · refine .inl ?_
      have hfa : f ∈ a := (ha f).mpr ⟨hf, by omega⟩
      have hne : a ≠ [] := fun z => by rw [z] at hfa; cases hfa
      refine ⟨a.dropLast, a.getLast hne, (List.dropLast_concat_getLast hne).symm, ?_⟩
      have ge : row[a.length - 1]? = some (a.getLast hne) := by
        have lp : 0 < a.length := List.length_pos_iff.mpr hne
        rw [e, List.getElem?_append_left (by omega), ← List.getLast?_eq_getElem?, List.getLast?_eq_some_getLast hne]
      have gf := ix_at hf
      rw [show row.idxOf f = a.length - 1 by omega, ge] at gf
      rw [Option.some.inj gf]
      exact h2
    · refine .inr ⟨fun y hy => h1 y ((ha y).mp hy).1 ((ha y).mp hy).2, ?_⟩
      cases b with
      | nil => rfl
      | cons y b => exact absurd ((hb y).mp List.mem_cons_self).2 (h2 y ((hb y).mp List.mem_cons_self).1)
theorem loose_bars {ps : List (Str × Str)} {row : List Str} {x : Str} (hd : row.Nodup) (hx : x ∈ row) : LooseIn ps row x ↔ ∀ b ∈ row, ¬ Bars ps row x b := by
  rw [loose_ix hd]
  constructor
  · rintro ⟨_, q1, q2⟩ b hb ⟨w, h⟩
    rcases h with ⟨_, h1, h2⟩ | ⟨_, ⟨h, h1, h2, h3, h4, h5⟩, h6⟩ | ⟨_, h1, h2⟩
    · rcases q2 with ⟨f, hf, e, hf2⟩ | ⟨_, h3⟩
      · rw [h1 f hf (by omega)] at hf2
        cases hf2
      · exact h3 b hb h2
    · rcases q2 with ⟨f, hf, e, hf2⟩ | ⟨h7, _⟩
      · have := h4 f hf (by omega) hf2
        omega
      · rw [h7 h h1 h3] at h2
        cases h2
    · rw [q1 b hb h1] at h2
      cases h2
  · intro q
    have fr : ∀ y ∈ row, row.idxOf x < row.idxOf y → frd ps x y = false := fun y hy h => by
      refine Bool.eq_false_iff.mpr fun c => ?_
      exact q y hy ⟨"friend", .inr (.inr ⟨rfl, h, c⟩)⟩
    refine ⟨hx, fr, ?_⟩
    by_cases c : ∃ h ∈ row, frd ps x h = true ∧ row.idxOf h < row.idxOf x
    · refine .inl ?_
      -- the last one of these
      have : ∀ n, ∀ h ∈ row, frd ps x h = true → row.idxOf h < row.idxOf x → row.idxOf x - row.idxOf h ≤ n → ∃ f ∈ row, row.idxOf f + 1 = row.idxOf x ∧ frd ps x f = true := by
        intro n
        induction n with
        | zero => intro h _ _ h3 h4; omega
        | succ n ih =>
          intro h h1 h2 h3 h4
          by_cases c2 : ∃ g ∈ row, row.idxOf g < row.idxOf x ∧ frd ps x g = true ∧ row.idxOf h < row.idxOf g
          · obtain ⟨g, g1, g2, g3, g4⟩ := c2
            exact ih g g1 g3 g2 (by omega)
          · refine ⟨h, h1, ?_, h2⟩
            refine Classical.byContradiction fun c3 => ?_
            have hl : row.idxOf h + 1 < row.length := Nat.lt_trans (by omega : row.idxOf h + 1 < row.idxOf x) (List.idxOf_lt_length_iff.mpr hx)
            have gz := List.getElem?_eq_getElem hl
            have iz := idx_at hd gz
            refine q _ (List.mem_of_getElem? gz) ⟨"between", .inr (.inl ⟨rfl, ⟨h, h1, h2, h3, fun g g1 g2 g3 => ?_, by omega⟩, by omega⟩)⟩
            exact Nat.not_lt.mp fun g4 => c2 ⟨g, g1, g2, g3, g4⟩
      obtain ⟨h, h1, h2, h3⟩ := c
      exact this _ h h1 h2 h3 (Nat.le_refl _)
    · have no : ∀ y ∈ row, row.idxOf y < row.idxOf x → frd ps x y = false := fun y hy h => Bool.eq_false_iff.mpr fun z => c ⟨y, hy, z, h⟩
      exact .inr ⟨no, fun y hy h => q y hy ⟨"behind", .inl ⟨rfl, no, h⟩⟩⟩
/-- of the others it changes nothing whether one who can have come last is there -/
theorem barsby_rem {ps : List (Str × Str)} {row : List Str} {x u v w : Str} (hd : row.Nodup) (lx : LooseIn ps row x) (hu : u ∈ row) (hv : v ∈ row) (nu : u ≠ x) (nv : v ≠ x) : BarsBy ps (rem row x) u v w ↔ BarsBy ps row u v w := by
  obtain ⟨hx, q1, _⟩ := (loose_ix hd).mp lx
  have nf : row.idxOf x < row.idxOf u → frd ps u x = false := fun h => by rw [frd_comm]; exact q1 u hu h
  have ii : ∀ {y z : Str}, y ∈ row → z ∈ row → y ≠ x → z ≠ x → ((rem row x).idxOf y < (rem row x).idxOf z ↔ row.idxOf y < row.idxOf z) := fun h1 h2 h3 h4 => rem_ix hd h1 h2 h3 h4
  unfold BarsBy
  refine or_congr (and_congr Iff.rfl (and_congr ?_ (ii hu hv nu nv))) (or_congr (and_congr Iff.rfl (and_congr ?_ (ii hv hu nv nu))) (and_congr Iff.rfl (and_congr (ii hu hv nu nv) Iff.rfl)))
  · constructor
    · intro h y hy hl
      by_cases c : y = x
      · rw [c] at hl ⊢
        exact nf hl
      · exact h y (mem_rem.mpr ⟨hy, c⟩) ((ii hy hu c nu).mpr hl)
    · intro h y hy hl
      have m := mem_rem.mp hy
      exact h y m.1 ((ii m.1 hu m.2 nu).mp hl)
  · constructor
    · rintro ⟨h, h1, h2, h3, h4, h5⟩
      have m := mem_rem.mp h1
      refine ⟨h, m.1, h2, (ii m.1 hu m.2 nu).mp h3, fun g g1 g2 g3 => ?_, (ii m.1 hv m.2 nv).mp h5⟩
      by_cases c : g = x
      · rw [c] at g2 g3
        rw [nf g2] at g3
        cases g3
      · have := h4 g (mem_rem.mpr ⟨g1, c⟩) ((ii g1 hu c nu).mpr g2) g3
        exact Nat.not_lt.mp fun z => absurd ((ii m.1 g1 m.2 c).mpr z) (by omega)
    · rintro ⟨h, h1, h2, h3, h4, h5⟩
      have nh : h ≠ x := fun z => by
        rw [z] at h2 h3
        rw [nf h3] at h2
        cases h2
      refine ⟨h, mem_rem.mpr ⟨h1, nh⟩, h2, (ii h1 hu nh nu).mpr h3, fun g g1 g2 g3 => ?_, (ii h1 hv nh nv).mpr h5⟩
      have m := mem_rem.mp g1
      have := h4 g m.1 ((ii m.1 hu m.2 nu).mp g2) g3
      exact Nat.not_lt.mp fun z => absurd ((ii h1 m.1 nh m.2).mp z) (by omega)
theorem idx_snoc {o : List Str} {x u : Str} (hu : u ∈ o) : (o ++ [x]).idxOf u = o.idxOf u := by
  rw [List.idxOf_append, if_pos hu]
theorem idx_snoc_last {o : List Str} {x : Str} (hx : x ∉ o) : (o ++ [x]).idxOf x = o.length := by
  rw [List.idxOf_append, if_neg hx]
  simp
/-- the orders are just the lists in which each stands ahead of all that it bars -/
theorem lin_iff {ps : List (Str × Str)} (irr : Irr ps) : ∀ (n : Nat) (order row : List Str), order.length = n → order.Nodup → order.Perm row → (standOf ps order = row ↔ ∀ u ∈ row, ∀ v ∈ row, Bars ps row u v → order.idxOf u < order.idxOf v)
  | 0, order, row, hn, hd, pm => by
    have e : order = [] := List.length_eq_zero_iff.mp hn
    subst e
    have e2 : row = [] := List.nil_perm.mp pm
    subst e2
    exact ⟨(fun _ u hu => nomatch hu), fun _ => rfl⟩
  | n + 1, order, row, hn, hd, pm => by
    rcases List.eq_nil_or_concat order with z | ⟨o, x, z⟩
    · rw [z] at hn
      cases hn
    rw [List.concat_eq_append] at z
    subst z
    have hdr : row.Nodup := pm.nodup_iff.mp hd
    have hd' : (x :: o).Nodup := ((List.perm_append_singleton x o).nodup_iff).mp hd
    obtain ⟨nx, hdo⟩ := List.nodup_cons.mp hd'
    have hx : x ∈ row := pm.mem_iff.mp (by simp)
    have on : o.length = n := by
      rw [List.length_append] at hn
      have : o.length + 1 = n + 1 := hn
      omega
    have pr : o.Perm (rem row x) := by
      have p1 : (x :: o).Perm row := (List.perm_append_singleton x o).symm.trans pm
      have p2 : (rem (x :: o) x).Perm (rem row x) := p1.filter _
      have e1 : rem (x :: o) x = o := rem_split (a := []) hd'
      rw [e1] at p2
      exact p2
    have mo : ∀ u ∈ row, u ≠ x → u ∈ o := fun u hu ne => pr.mem_iff.mpr (mem_rem.mpr ⟨hu, ne⟩)
    have ih := lin_iff irr n o (rem row x) on hdo pr
    rw [standOf_app]
    constructor
    · intro e u hu v hv bv
      have hs : (x :: standOf ps o).Nodup := ((stand_perm ps o).cons x).nodup_iff.mpr hd'
      have er := come_rem (ps := ps) hs
      have lx := come_loose ps (standOf ps o) x
      rw [e] at er lx
      have nu : u ≠ x := fun z => by
        subst z
        exact (loose_bars hdr hx).mp lx v hv bv
      have uo := mo u hu nu
      rw [idx_snoc uo]
      by_cases cv : v = x
      · subst cv
        rw [idx_snoc_last nx]
        exact List.idxOf_lt_length_iff.mpr uo
      · rw [idx_snoc (mo v hv cv)]
        obtain ⟨w, bw⟩ := bv
        exact ih.mp er.symm u (mem_rem.mpr ⟨hu, nu⟩) v (mem_rem.mpr ⟨hv, cv⟩) ⟨w, (barsby_rem hdr lx hu hv nu cv).mpr bw⟩
    · intro q
      have lx : LooseIn ps row x := (loose_bars hdr hx).mpr fun b hb bb => by
        have h := q x hx b hb bb
        rw [idx_snoc_last nx] at h
        have : (o ++ [x]).idxOf b < (o ++ [x]).length := List.idxOf_lt_length_iff.mpr (pm.mem_iff.mpr hb)
        rw [List.length_append] at this
        have : (o ++ [x]).idxOf b < o.length + 1 := this
        omega
      have es : standOf ps o = rem row x := ih.mpr fun u hu v hv ⟨w, bw⟩ => by
        have mu := mem_rem.mp hu
        have mv := mem_rem.mp hv
        have h := q u mu.1 v mv.1 ⟨w, (barsby_rem hdr lx mu.1 mv.1 mu.2 mv.2).mp bw⟩
        rw [idx_snoc (mo u mu.1 mu.2), idx_snoc (mo v mv.1 mv.2)] at h
        exact h
      rw [es]
      exact loose_come irr hdr lx
end Lk
set_option maxRecDepth 100000
set_option maxHeartbeats 4000000
namespace Lk
open PySem PySem.Spec PyProof.Rows L2

/-! ### rows, be they lists or tuples -/
theorem RowAt.sq {K : PySem.W.Frag} {H : Hp} {a : Addr} {row : List Str} (h : RowAt H a row) : SqL K H a (row.map V.str) ∨ SqT K H a (row.map V.str) := h.elim (fun e => .inr e.sq) (fun e => .inl (.inl (.inl e)))
theorem RowAt.at_ {H H' : Hp} {a : Addr} {row : List Str} (h : RowAt H a row) (e : H' a = H a) : RowAt H' a row := by
  rcases h with ⟨o, h1, h2⟩ | h
  · exact .inl ⟨o, h1, e.trans h2⟩
  · exact .inr (e.trans h)
theorem RowAt.some_ {H : Hp} {a : Addr} {row : List Str} (h : RowAt H a row) : ∃ o, H a = some o := h.elim (fun ⟨_, _, e⟩ => ⟨_, e⟩) (fun e => ⟨_, e⟩)
theorem same_eq {H H' : Hp} {a : Addr} {o : HO} (s : Same H H') (h : H a = some o) : H' a = H a := (s _ _ h).trans h.symm
theorem RowAt.kept {H H' : Hp} {a : Addr} {row : List Str} (h : RowAt H a row) (s : Same H H') : H' a = H a := by
  obtain ⟨o, e⟩ := h.some_
  exact same_eq s e
theorem RowAt.oth {H H' : Hp} {a b : Addr} {row : List Str} (h : RowAt H a row) (s : Oth b H H') (hb : IsBox H b) : RowAt H' a row := h.elim (fun e => .inl (e.oth s hb)) (fun e => .inr (s _ _ (hb.ne_strs e) e))
section
variable {X : Cx}
/-- a cut of a row -/
def rSlR : V → Option Int → Option Int → Hp → VK → Prop := fun x lo hi H Q => ∃ a row, x = .ref a ∧ RowAt H a row ∧ ∀ p H', Same H H' → RowAt H' p (cutL row lo hi) → Q (.ref p) H'
theorem sl_row : SlR X rSlR := by
  intro pins s σ H x v vl vu lo hi sl Q I rx hs pl pu h
  obtain ⟨a, row, rfl, hrow, q⟩ := h
  rcases hrow with e | e
  · refine sl_tupM pins s σ H _ v vl vu lo hi sl Q I rx hs pl pu ⟨a, _, rfl, e, fun t H' s' t' => q t H' s' (.inl ?_)⟩
    rw [cutV_map] at t'
    exact t'
  · refine sl_list pins s σ H _ v vl vu lo hi sl Q I rx hs pl pu ⟨a, _, rfl, .inl (.inl e), fun p hp => q p _ (same_upd hp) (.inr ?_)⟩
    rw [cutV_map]
    exact upd_same
/-- one of a row -/
def rIxR : R2 := fun x y H Q => ∃ (a : Addr) (row : List Str) (i : Int) (z : Str), x = .ref a ∧ y = .int i ∧ RowAt H a row ∧ atI (row.map V.str) i = some (.str z) ∧ Q (.str z) H
theorem ix_row : IxR X rIxR := by
  intro value slice pins s σ H x y v u Q I rx ry h hs
  obtain ⟨a, row, i, z, rfl, rfl, hrow, hz, q⟩ := h
  rcases hrow with e | e
  · exact ix_tup value slice pins s σ H _ _ v u Q I rx ry ⟨a, _, i, _, rfl, rfl, e.sq, hz, q⟩ hs
  · exact ix_list value slice pins s σ H _ _ v u Q I rx ry ⟨a, _, i, _, rfl, rfl, .inl (.inl e), hz, q⟩ hs
/-- for one in a row -/
def iRow (tl : TE) : TI := fun σ H R => tl σ H fun x H1 => ∃ a row, x = .ref a ∧ RowAt H1 a row ∧ ∀ (J : It) (G : Hp → Prop), Walk J (row.map V.str).length G (YAt (row.map V.str)) → (∀ H', H' a = H1 a → G H') → R J H1
theorem pi_row {tg l : Expr} {tl : TE} (hl : PE X l tl) : PI X tg l (iRow tl) := by
  constructor
  intro pins s σ H R I h
  refine thn (hl.run pins s σ H _ I h) ?_
  rintro v s1 ⟨x, H1, I1, r1, a, row, rfl, hrow, q⟩
  cases r1
  rcases hrow with e | e
  · have sq : SqT X.K H1 a (row.map V.str) := e.sq
    obtain ⟨its, rv, p, hz⟩ := I1.tuple sq
    refine wpAny_pyIter_tuple (show s1.heap.IsTuple a its.toArray from p)
      ⟨s1.heap.objs.size, [s1.heap.objs.size], _, _, H1, rfl, I1.kept (t' := s1.toks) (fun _ _ g => Heap.get?_push_of_some _ g), turn_tuple a _, ⟨_, Heap.get?_push_size _ rfl, rfl, rfl⟩, ?_, q _ _ walk_tup ?_⟩
    · intro c hc
      rw [List.mem_singleton.mp hc]
      exact I1.fpOk (Nat.le_refl _) (I1.hok.fresh (Nat.le_refl _))
    · intro H' eq
      obtain ⟨o, h1, h2⟩ := e
      exact TupAt.sq (show TupAt H' a (row.map V.str) from ⟨o, h1, eq.trans h2⟩)
  · have sq : SqL X.K H1 a (row.map V.str) := .inl (.inl e)
    obtain ⟨its, rv, p, hz⟩ := I1.list sq
    refine wpAny_pyIter_list p.isList
      ⟨s1.heap.objs.size, [s1.heap.objs.size], _, _, H1, rfl, I1.kept (t' := s1.toks) (fun _ _ g => Heap.get?_push_of_some _ g), turn_list a _, ⟨_, Heap.get?_push_size _ rfl, rfl, rfl⟩, ?_, q _ _ walk_list ?_⟩
    · intro c hc
      rw [List.mem_singleton.mp hc]
      exact I1.fpOk (Nat.le_refl _) (I1.hok.fresh (Nat.le_refl _))
    · exact fun H' eq => .inl (.inl (eq.trans e))
/-- for place, one in enumerate(row), row a name -/
def iRowE (i : Nat) : TI := fun σ H R => ∃ a row, σ[i]? = some (some (.ref a)) ∧ RowAt H a row ∧ ∀ (J : It) (G : Hp → Prop), Walk J (row.map V.str).length G (YPair (fun k => some (.int (k : Nat))) (fun k => (row.map V.str)[k]?)) → (∀ H', H' a = H a → G H') → R J H
theorem pi_rowE {elts : List Expr} {kk : Nat} {p pos tpos : Pos} {e : Expr} {i : Nat} (hg : Gl X "enumerate") (hm : X.mg "enumerate" = none) (he : PE X e (tVar i)) (hs : starEach [e] X.env = [(false, eval e X.env)] := by rfl) :
    PI X (.Tuple elts kk tpos) (.Call (.Name "enumerate" p) [e] [] pos) (iRowE i) := by
  constructor
  intro pins s σ H R I h
  obtain ⟨a, row, hi, hrow, q⟩ := h
  rcases hrow with t | t
  · refine (pi_enumT (pos := pos) (tpos := tpos) (elts := elts) (kk := kk) hg hm (pa_cons he pa_nil hs) hs).run pins s σ H R I ⟨.ref a, hi, a, _, rfl, t.sq, q _ _ walk_enumT ?_⟩
    intro H' eq
    obtain ⟨o, h1, h2⟩ := t
    exact TupAt.sq (show TupAt H' a (row.map V.str) from ⟨o, h1, eq.trans h2⟩)
  · exact (pi_enum (pos := pos) (tpos := tpos) (elts := elts) (kk := kk) hg hm (pa_cons he pa_nil hs) hs).run pins s σ H R I ⟨.ref a, hi, a, _, rfl, .inl (.inl t), q _ _ walk_enum fun H' eq => .inl (.inl (eq.trans t))⟩
end

/-! ### list comprehensions that leave some out -/
end Lk
set_option maxRecDepth 100000
set_option maxHeartbeats 4000000
namespace Lk
open PySem PySem.Spec PyProof.Rows L2

/-! ### list comprehensions, by what comes of each one -/
section
variable {J : It} {n : Nat} {G : Hp → Prop} {Y : Nat → Hp → V → Hp → Prop} {g : TG} {tt : TT} {te : TE} {vs : List Nat} {σ : L2.St} {H1 : Hp} {D : Addr} {Qd : Hp → Prop}
/-- one of each -/
theorem lc_list {α : Type} (w : Walk J n G Y) (xs : List α) (f : α → V) (hl : xs.length = n) (hn : n ≤ 1000) (hD : H1 D = none) (hG : ∀ H', Same H1 H' → G H')
    (hs : ∀ (i : Nat) (x : α) (v : V) (H H' : Hp) (k : V → Hp → Prop), xs[i]? = some x → Same H1 H → Y i H v H' → (∀ H4, Same H H4 → k (f x) H4) → g v (wipe σ vs) H' fun σ2 H2 => wipe σ2 vs = wipe σ vs ∧ te σ2 H2 k)
    (hd : ∀ H, Same H1 H → H D = some (.lst (xs.map f)) → Qd H) :
    ∃ W : Nat → Nat → Hp → Prop, (∃ m, W 0 m (upd H1 D (.lst []))) ∧ ∀ i m H, W i m H →
      (J.stop i H ∧ Qd H) ∨ (J.go i H ∧ ∃ Nx : Hp → Prop, (∀ H', Nx H' → ∃ m', m' < m ∧ W (i + 1) m' H') ∧ ∀ x H', J.yld i H x H' → g x (wipe σ vs) H' fun σ2 H2 => wipe σ2 vs = wipe σ vs ∧ tYes σ2 H2 fun b H3 =>
        if b = true then te σ2 H3 fun y H4 => ∃ acc, H4 D = some (.lst acc) ∧ acc.length < sizeLine ∧ Nx (upd H4 D (.lst (acc ++ [y]))) else Nx H3) := by
  refine lc_it w (fun i H' => Same H1 H' ∧ H' D = some (.lst ((xs.take i).map f))) ⟨same_upd hD, upd_same⟩ (fun i H' _ h => hG H' h.1) ?_ (fun H h => hd H h.1 ?_)
  · rintro i v H H' hi ⟨s1, d1⟩ y
    obtain ⟨x, hx⟩ : ∃ x, xs[i]? = some x := ⟨xs[i]'(by omega), List.getElem?_eq_getElem (by omega)⟩
    refine hs i x v H H' _ hx s1 y fun H4 s4 => ?_
    refine ⟨_, s4 _ _ d1, ?_, fun b o e => ?_, ?_⟩
    · rw [List.length_map, List.length_take]
      exact small1000 (by omega)
    · rw [upd_ne (ne_of_none e hD)]
      exact s4 _ _ (s1 _ _ e)
    · rw [upd_same, List.take_add_one, hx, List.map_append]
      rfl
  · have d1 := h.2
    rw [List.take_of_length_le (by omega)] at d1
    exact d1
/-- those that p takes -/
theorem lc_take {xs : List Str} (w : Walk J (xs.map V.str).length G Y) (p : Str → Bool) (hn : xs.length ≤ 1000) (hD : H1 D = none) (hG : ∀ H', Same H1 H' → G H')
    (hs : ∀ (i : Nat) (x : Str) (v : V) (H H' : Hp) (k : V → Hp → Prop) (k0 : Hp → Prop), xs[i]? = some x → Same H1 H → Y i H v H' → (p x = true → ∀ H4, Same H H4 → k (.str x) H4) → (p x = false → ∀ H4, Same H H4 → k0 H4) →
      g v (wipe σ vs) H' fun σ2 H2 => wipe σ2 vs = wipe σ vs ∧ tt σ2 H2 fun b H3 => if b = true then te σ2 H3 k else k0 H3)
    (hd : ∀ H, Same H1 H → H D = some (.lst ((xs.filter p).map V.str)) → Qd H) :
    ∃ W : Nat → Nat → Hp → Prop, (∃ m, W 0 m (upd H1 D (.lst []))) ∧ ∀ i m H, W i m H →
      (J.stop i H ∧ Qd H) ∨ (J.go i H ∧ ∃ Nx : Hp → Prop, (∀ H', Nx H' → ∃ m', m' < m ∧ W (i + 1) m' H') ∧ ∀ x H', J.yld i H x H' → g x (wipe σ vs) H' fun σ2 H2 => wipe σ2 vs = wipe σ vs ∧ tt σ2 H2 fun b H3 =>
        if b = true then te σ2 H3 fun y H4 => ∃ acc, H4 D = some (.lst acc) ∧ acc.length < sizeLine ∧ Nx (upd H4 D (.lst (acc ++ [y]))) else Nx H3) := by
  refine lc_it w (fun i H' => Same H1 H' ∧ H' D = some (.lst (((xs.take i).filter p).map V.str))) ⟨same_upd hD, upd_same⟩ (fun i H' _ h => hG H' h.1) ?_ ?_
  · rintro i v H H' hi ⟨s1, d1⟩ y
    rw [List.length_map] at hi
    obtain ⟨x, hx⟩ : ∃ x, xs[i]? = some x := ⟨xs[i], List.getElem?_eq_getElem hi⟩
    have ft : (xs.take (i + 1)).filter p = (xs.take i).filter p ++ if p x = true then [x] else [] := by
      rw [List.take_add_one, hx, List.filter_append]
      show _ ++ List.filter p [x] = _
      rw [List.filter_cons, List.filter_nil]
    refine hs i x v H H' _ _ hx s1 y (fun c H4 s4 => ?_) (fun c H4 s4 => ?_)
    · rw [if_pos c] at ft
      refine ⟨_, s4 _ _ d1, ?_, fun b o e => ?_, ?_⟩
      · rw [List.length_map]
        exact small1000 (Nat.le_trans (List.length_filter_le _ _) (by rw [List.length_take]; omega))
      · rw [upd_ne (ne_of_none e hD)]
        exact s4 _ _ (s1 _ _ e)
      · rw [upd_same, ft, List.map_append]
        rfl
    · rw [if_neg (by rw [c]; exact Bool.false_ne_true), List.append_nil] at ft
      exact ⟨s1.trans s4, by rw [ft]; exact s4 _ _ d1⟩
  · rintro H ⟨s1, d1⟩
    rw [List.length_map, List.take_of_length_le (Nat.le_refl _)] at d1
    exact hd H s1 d1
end
end Lk
set_option maxRecDepth 100000
set_option maxHeartbeats 4000000
namespace Lk
open PySem PySem.Spec PyProof.Rows L2
/-! ### the set of a tuple of texts -/
section
variable {P : Program} {w : World} {A : Around} {E : Value → Shared → Prop} {s : Shared}
end
section
variable {X : Cx}
end
end Lk
set_option maxRecDepth 100000
set_option maxHeartbeats 4000000
namespace Lk
open PySem PySem.Spec PyProof.Rows L2
theorem gone_stand {ps : List (Str × Str)} (irr : Irr ps) : ∀ (n : Nat) (row : List Str), row.length = n → row.Nodup → goneR ps [] row = [] → standOf ps (goneO ps [] row).reverse = row
  | n, row, hn, hd, h => by
    cases e : (someL ps [] row).getLast? with
    | none =>
      obtain ⟨g1, g2⟩ := gone_none (List.getLast?_eq_none_iff.mp e)
      rw [g2] at h
      rw [g1, h]
      rfl
    | some x =>
      obtain ⟨g1, g2⟩ := gone_some hd e
      have lx := (looseL_iff irr hd).mp (someL_sub (last_mem e)).1
      have rl := rem_len hd lx.mem
      match n, hn with
      | 0, hn => omega
      | n + 1, hn =>
        have ih := gone_stand irr n (rem row x) (by omega) (rem_nodup hd) (by rw [← g2]; exact h)
        rw [g1, List.reverse_cons, standOf_app, ih]
        exact loose_come irr hd lx
theorem ord_ring {ps : List (Str × Str)} {row : List Str} (irr : Irr ps) (hd : row.Nodup) (ne : goneR ps [] row ≠ []) : RingOk ps row (goneR ps [] row) (ringOf ps row (goneR ps [] row)) := by
  obtain ⟨r1, r2, _⟩ := gone_red (stay := []) irr row.length row rfl hd
  exact ringOf_ok hd r1 r2 ne
theorem ord_len {ps : List (Str × Str)} {row : List Str} {bs : List B3} (irr : Irr ps) (hd : row.Nodup) (ne : goneR ps [] row ≠ []) (e : bs.map (·.2) = ringOf ps row (goneR ps [] row)) : bs.length ≤ row.length := by
  obtain ⟨r1, _, _⟩ := gone_red (stay := []) irr row.length row rfl hd
  have h := ring_len (ord_ring irr hd ne)
  rw [← e, List.length_map] at h
  exact Nat.le_trans h r1.len
theorem OrdAt.lst {H : Hp} {p : Addr} {w : Str} {ps : List (Str × Str)} {row : List Str} (irr : Irr ps) (hd : row.Nodup) (hn : row.length ≤ 100) (h : OrdAt H p w ps row) : ∃ xs, H p = some (.lst xs) ∧ xs.length ≤ 100 ∧
    (∀ ke H', Same H H' → H' ke = some (.lst xs) → OrdAt H' ke w ps row) ∧ (∀ ke o', ke ≠ p → H ke = some (.lst xs) → OrdAt (upd H p o') ke w ps row) := by
  obtain ⟨_, _, gl⟩ := gone_red (stay := []) irr row.length row rfl hd
  rcases h with ⟨a1, a2, a3⟩ | ⟨a1, a2, bs, a3, a4, a5⟩
  · exact ⟨_, a3, by rw [List.length_map, List.length_reverse]; omega, fun ke H' s e => .inl ⟨a1, a2, e⟩, fun ke o' ne e => .inl ⟨a1, a2, (upd_ne ne).trans e⟩⟩
  · have bl := ord_len irr hd a1 a5
    refine ⟨_, a3, by show (bs.map _).length ≤ 100; rw [List.length_map]; omega, fun ke H' s e => .inr ⟨a1, a2, bs, e, a4.same s, a5⟩, fun ke o' ne e => .inr ⟨a1, a2, bs, (upd_ne ne).trans e, fun c hc => ?_, a5⟩⟩
    exact (upd_ne (ne_of (a4 c hc) a3 (fun z => nomatch z))).trans (a4 c hc)
end Lk
set_option maxRecDepth 100000
set_option maxHeartbeats 4000000
namespace Lk
open PySem PySem.Spec PyProof.Rows L2

/-! ### letters -/
/-! ### promises of the small judges -/
def LinksOk (H : Hp) (p : Addr) (bs : List B3) : Prop := H p = some (.lst (refs bs)) ∧ PairsAt H bs ∧ (∀ b ∈ bs, NameOk b.2.1) ∧ (bs.map (·.2.1)).Nodup ∧ bs ≠ [] ∧ bs.length ≤ 100
theorem LinksOk.same {H H' : Hp} {p : Addr} {bs : List B3} (s : Same H H') (h : LinksOk H p bs) : LinksOk H' p bs := ⟨s _ _ h.1, h.2.1.same s, h.2.2⟩
def nextsL (bs : List B3) (last : Str) : List Str := (bs.drop 1).map (·.2.1) ++ [last]
end Lk
set_option maxRecDepth 100000
set_option maxHeartbeats 4000000
namespace Lk
open PySem PySem.Spec PyProof.Rows L2

/-! ### whoever comes, the same are left -/
/-- what order_of told, and who came since -/
def MatAt (H : Hp) (p : Addr) (word : Str) (ps : List (Str × Str)) (row more : List Str) : Prop :=
  (word = "ring" ∧ goneR ps [] row ≠ [] ∧ ∃ bs : List B3, H p = some (.lst (refs bs)) ∧ PairsAt H bs ∧ bs.map (·.2) = ringOf ps row (goneR ps [] row)) ∨ (word = "order" ∧ goneR ps [] row = [] ∧ H p = some (.lst (((goneO ps [] row).reverse ++ more).map V.str)))
theorem MatAt.same {H H' : Hp} {p : Addr} {word : Str} {ps : List (Str × Str)} {row more : List Str} (s : Same H H') (h : MatAt H p word ps row more) : MatAt H' p word ps row more :=
  h.elim (fun ⟨h1, h2, bs, h3, h4, h5⟩ => .inl ⟨h1, h2, bs, s _ _ h3, h4.same s, h5⟩) (fun ⟨h1, h2, h3⟩ => .inr ⟨h1, h2, s _ _ h3⟩)
theorem OrdAt.word {H : Hp} {p : Addr} {w : Str} {ps : List (Str × Str)} {row : List Str} (h : OrdAt H p w ps row) : (w = "ring" ∧ goneR ps [] row ≠ []) ∨ (w = "order" ∧ goneR ps [] row = []) := h.elim (fun h => .inr ⟨h.2.1, h.1⟩) (fun h => .inl ⟨h.2.1, h.1⟩)
end Lk
set_option maxRecDepth 100000
set_option maxHeartbeats 4000000
namespace Lk
open PySem PySem.Spec PyProof.Rows L2

/-! ### deeds: nobody: a serving; somebody: its coming -/
abbrev Deed := Option Str
def deedL : Deed → List Str
  | none => ["serve"]
  | some x => ["come", x]
abbrev LD := Addr × Deed
def refsD (ds : List LD) : List V := ds.map fun q => V.ref q.1
def DeedsAt (H : Hp) (ds : List LD) : Prop := ∀ q ∈ ds, TupAt H q.1 ((deedL q.2).map V.str)
theorem DeedsAt.same {H H' : Hp} {ds : List LD} (s : Same H H') (h : DeedsAt H ds) : DeedsAt H' ds := fun q hq => (h q hq).same s
/-- the row and those who were served, behind one deed -/
def stepD (ps : List (Str × Str)) (st : List Str × List Str) (met : List Str) : Deed → Option (List Str × List Str)
  | none => if st.1 = [] then none else some (st.1.drop 1, st.2 ++ st.1.take 1)
  | some x => if x ∈ met then none else some (comeTo ps st.1 x, st.2)
def comers (ds : List Deed) : List Str := ds.filterMap id
def goD (ps : List (Str × Str)) : List Deed → List Str × List Str → List Str → Option (List Str × List Str)
  | [], st, _ => some st
  | d :: ds, st, met => match stepD ps st met d with
    | none => none
    | some st' => goD ps ds st' (met ++ d.toList)
theorem goD_snoc (ps : List (Str × Str)) (d : Deed) : ∀ (ds : List Deed) (st : List Str × List Str) (met : List Str), goD ps (ds ++ [d]) st met = match goD ps ds st met with | none => none | some st' => stepD ps st' (met ++ comers ds) d
  | [], st, met => by
    show (match stepD ps st met d with | none => none | some st' => some st') = stepD ps st (met ++ comers []) d
    rw [show met ++ comers [] = met from List.append_nil met]
    cases stepD ps st met d <;> rfl
  | e :: ds, st, met => by
    show (match stepD ps st met e with | none => none | some st' => goD ps (ds ++ [d]) st' (met ++ e.toList)) = match (match stepD ps st met e with | none => none | some st' => goD ps ds st' (met ++ e.toList)) with | none => none | some st' => stepD ps st' (met ++ comers (e :: ds)) d
    cases h : stepD ps st met e with
    | none => rfl
    | some st' =>
      show goD ps (ds ++ [d]) st' (met ++ e.toList) = match goD ps ds st' (met ++ e.toList) with | none => none | some st'' => stepD ps st'' (met ++ comers (e :: ds)) d
      rw [goD_snoc ps d ds st' (met ++ e.toList)]
      have ec : met ++ e.toList ++ comers ds = met ++ comers (e :: ds) := by
        rw [List.append_assoc]
        cases e with
        | none => rfl
        | some x => rfl
      rw [ec]
/-- nobody is in it twice, and none but those who came or were there -/
theorem go_perm {ps : List (Str × Str)} : ∀ (ds : List Deed) (st : List Str × List Str) (met : List Str) (st' : List Str × List Str), goD ps ds st met = some st' → (st'.2 ++ st'.1).Perm (comers ds ++ (st.2 ++ st.1))
  | [], st, met, st', h => by
    have e : st = st' := Option.some.inj h
    subst e
    exact List.Perm.refl _
  | d :: ds, st, met, st', h => by
    have h' : (match stepD ps st met d with | none => none | some s2 => goD ps ds s2 (met ++ d.toList)) = some st' := h
    cases e : stepD ps st met d with
    | none => rw [e] at h'; cases h'
    | some s2 =>
      rw [e] at h'
      have ih := go_perm ds s2 (met ++ d.toList) st' h'
      refine ih.trans ?_
      cases d with
      | none =>
        have e2 : (if st.1 = [] then none else some (st.1.drop 1, st.2 ++ st.1.take 1)) = some s2 := e
        by_cases c : st.1 = []
        · rw [if_pos c] at e2
          cases e2
        · rw [if_neg c] at e2
          have e3 := Option.some.inj e2
          subst e3
          show (comers ds ++ ((st.2 ++ st.1.take 1) ++ st.1.drop 1)).Perm (comers ds ++ (st.2 ++ st.1))
          rw [List.append_assoc, List.take_append_drop]
      | some x =>
        have e2 : (if x ∈ met then none else some (comeTo ps st.1 x, st.2)) = some s2 := e
        by_cases c : x ∈ met
        · rw [if_pos c] at e2
          cases e2
        · rw [if_neg c] at e2
          have e3 := Option.some.inj e2
          subst e3
          show (comers ds ++ (st.2 ++ comeTo ps st.1 x)).Perm (x :: comers ds ++ (st.2 ++ st.1))
          have p1 : (st.2 ++ comeTo ps st.1 x).Perm (x :: (st.2 ++ st.1)) := (List.Perm.append_left _ (come_perm ps st.1 x)).trans List.perm_middle
          exact (List.Perm.append_left _ p1).trans List.perm_middle
/-! ### promises -/
end Lk
set_option maxRecDepth 100000
set_option maxHeartbeats 4000000
namespace Lk
open PySem PySem.Spec PyProof.Rows L2

/-! ### back through servings -/
/-- no friend of it stands behind it -/
def NoBeh (ps : List (Str × Str)) (row : List Str) (x : Str) : Prop := ∃ c d, row = c ++ x :: d ∧ ∀ y ∈ d, frd ps x y = false
theorem LooseIn.nb {ps : List (Str × Str)} {row : List Str} {x : Str} (h : LooseIn ps row x) : NoBeh ps row x := by
  obtain ⟨a, b, e, h1, _⟩ := h
  exact ⟨a, b, e, h1⟩
theorem NoBeh.mem {ps : List (Str × Str)} {row : List Str} {x : Str} (h : NoBeh ps row x) : x ∈ row := by
  obtain ⟨a, b, rfl, _⟩ := h
  simp
theorem NoBeh.cons {ps : List (Str × Str)} {row : List Str} {x : Str} (y : Str) (h : NoBeh ps row x) : NoBeh ps (y :: row) x := by
  obtain ⟨a, b, rfl, h1⟩ := h
  exact ⟨y :: a, b, rfl, h1⟩
theorem NoBeh.rem_ {ps : List (Str × Str)} {row : List Str} {x y : Str} (h : NoBeh ps row x) (ne : x ≠ y) : NoBeh ps (rem row y) x := by
  obtain ⟨a, b, rfl, h1⟩ := h
  refine ⟨rem a y, rem b y, ?_, fun z hz => h1 z (List.mem_filter.mp hz).1⟩
  unfold rem
  rw [List.filter_append, List.filter_cons]
  simp [ne]
theorem diamondN {ps : List (Str × Str)} {row : List Str} {x y : Str} (hd : row.Nodup) (hx : LooseIn ps row x) (hy : NoBeh ps row y) (ne : x ≠ y) : LooseIn ps (rem row y) x := by
  obtain ⟨a, b, e, h1, h2⟩ := hx
  have my : y ∈ row := hy.mem
  obtain ⟨c, d, e', g1⟩ := hy
  have my' : y ∈ a ∨ y ∈ b := by
    rw [e] at my
    rcases List.mem_append.mp my with z | z
    · exact .inl z
    · rcases List.mem_cons.mp z with z | z
      · exact absurd z.symm ne
      · exact .inr z
  rcases my' with m | m
  · obtain ⟨a1, a2, rfl⟩ := List.append_of_mem m
    have e2 : row = a1 ++ y :: (a2 ++ x :: b) := by rw [e]; simp
    have er : rem row y = (a1 ++ a2) ++ x :: b := by
      rw [e2, rem_split (by rw [← e2]; exact hd)]
      simp
    refine ⟨a1 ++ a2, b, er, h1, ?_⟩
    obtain ⟨_, u2⟩ := split_uniq hd e2 e'
    rcases h2 with ⟨a', f, ea, hf⟩ | ⟨na, nb⟩
    · rcases List.eq_nil_or_concat a2 with z | ⟨l, g, z⟩
      · subst z
        have q := List.append_inj' ea (by rfl)
        have ey : y = f := (List.cons.inj q.2).1
        have bad := g1 x (by rw [← u2]; simp)
        rw [frd_comm, ey, hf] at bad
        cases bad
      · rw [List.concat_eq_append] at z
        subst z
        have ea' : (a1 ++ y :: l) ++ [g] = a' ++ [f] := by rw [← ea]; simp
        have q := List.append_inj' ea' rfl
        have eg : g = f := (List.cons.inj q.2).1
        exact .inl ⟨a1 ++ l, g, by simp, by rw [eg]; exact hf⟩
    · exact .inr ⟨fun z hz => na z (by
        rcases List.mem_append.mp hz with w | w
        · exact List.mem_append_left _ w
        · exact List.mem_append_right _ (List.mem_cons_of_mem _ w)), nb⟩
  · obtain ⟨b1, b2, rfl⟩ := List.append_of_mem m
    have e2 : row = (a ++ x :: b1) ++ y :: b2 := by rw [e]; simp
    have er : rem row y = a ++ x :: (b1 ++ b2) := by
      rw [e2, rem_split (by rw [← e2]; exact hd)]
      simp
    refine ⟨a, b1 ++ b2, er, fun z hz => h1 z (by
        rcases List.mem_append.mp hz with w | w
        · exact List.mem_append_left _ w
        · exact List.mem_append_right _ (List.mem_cons_of_mem _ w)), ?_⟩
    rcases h2 with h | ⟨_, z⟩
    · exact .inl h
    · exact absurd z (by simp)
/-- back from a row, `m` served, to one with `m0` served: the last deed first; whoever has to stay at that moment stays -/
inductive Way (ps : List (Str × Str)) (stay : Nat → List Str) (sv : List Str) (m0 : Nat) : Nat → List Str → List Deed → List Str → Prop where
  | done (row : List Str) : Way ps stay sv m0 m0 row [] row
  | go {m : Nat} {row : List Str} {ds : List Deed} {fin : List Str} (x : Str) (h : LooseIn ps row x) (hs : x ∉ stay m) (t : Way ps stay sv m0 m (rem row x) ds fin) : Way ps stay sv m0 m row (some x :: ds) fin
  | back {m : Nat} {row : List Str} {ds : List Deed} {fin : List Str} (y : Str) (h : sv[m]? = some y) (t : Way ps stay sv m0 m (y :: row) ds fin) : Way ps stay sv m0 (m + 1) row (none :: ds) fin
section
variable {ps : List (Str × Str)} {stay stay' : Nat → List Str} {sv : List Str} {m0 m1 m : Nat} {row mid fin : List Str} {ds ds' : List Deed}
theorem Way.le (h : Way ps stay sv m0 m row ds fin) : m0 ≤ m := by
  induction h with
  | done _ => exact Nat.le_refl _
  | go x h hs t ih => exact ih
  | back y h t ih => omega
theorem Way.trans (h : Way ps stay sv m1 m row ds mid) : Way ps stay sv m0 m1 mid ds' fin → Way ps stay sv m0 m row (ds ++ ds') fin := by
  induction h with
  | done _ => exact id
  | go x h hs t ih => exact fun k => .go x h hs (ih k)
  | back y h t ih => exact fun k => .back y h (ih k)
theorem line_back {y : Str} (h : sv[m]? = some y) : sv.take (m + 1) ++ row = sv.take m ++ y :: row := by
  rw [List.take_add_one, h]
  simp
theorem nd_right {a b : List Str} (h : (a ++ b).Nodup) : b.Nodup := (List.nodup_append.mp h).2.1
theorem nd_rem {a b : List Str} {x : Str} (h : (a ++ b).Nodup) : (a ++ rem b x).Nodup := h.sublist (List.Sublist.append_left List.filter_sublist _)
theorem Way.sub (h : Way ps stay sv m0 m row ds fin) : ∀ x ∈ fin, x ∈ sv.take m ++ row := by
  induction h with
  | done _ => exact fun x hx => List.mem_append_right _ hx
  | go y h hs t ih =>
    intro x hx
    rcases List.mem_append.mp (ih x hx) with z | z
    · exact List.mem_append_left _ z
    · exact List.mem_append_right _ (List.mem_filter.mp z).1
  | back y h t ih =>
    intro x hx
    rw [line_back h]
    exact ih x hx
theorem rem_no {row : List Str} {x : Str} (h : x ∉ row) : rem row x = row := List.filter_eq_self.mpr fun y hy => by
  have : ¬ y = x := fun z => h (z ▸ hy)
  simp [this]
/-- who could go once may be gone at once -/
theorem Way.swap (h : Way ps stay sv m0 m row ds fin) : (sv.take m ++ row).Nodup → ∀ x, NoBeh ps row x → ∃ ds', Way ps stay sv m0 m (rem row x) ds' (rem fin x) := by
  induction h with
  | done row => exact fun _ x _ => ⟨[], .done _⟩
  | @go m row ds fin y hy hs t ih =>
    intro hd x hx
    by_cases e : y = x
    · subst e
      have ny : y ∉ fin := fun z => by
        have q := t.sub y z
        have dj := (List.nodup_append.mp hd).2.2
        rcases List.mem_append.mp q with u | u
        · exact dj y u y hx.mem rfl
        · have := (List.mem_filter.mp u).2
          simp at this
      rw [rem_no ny]
      exact ⟨ds, t⟩
    · obtain ⟨ds', w⟩ := ih (nd_rem hd) x (hx.rem_ (fun z => e z.symm))
      rw [rem_comm] at w
      exact ⟨some y :: ds', .go y (diamondN (nd_right hd) hy hx e) hs w⟩
  | @back m row ds fin y hy t ih =>
    intro hd x hx
    rw [line_back hy] at hd
    have ne : y ≠ x := fun z => by
      have := (List.nodup_cons.mp (nd_right hd)).1
      exact this (z ▸ hx.mem)
    obtain ⟨ds', w⟩ := ih hd x (hx.cons y)
    have e : rem (y :: row) x = y :: rem row x := by
      unfold rem
      rw [List.filter_cons]
      simp [ne]
    rw [e] at w
    exact ⟨none :: ds', .back y hy w⟩
/-- whoever can go goes, at every moment -/
def trace (ps : List (Str × Str)) (stay : Nat → List Str) (sv : List Str) : Nat → List Str → List Deed × List Str
  | 0, row => ((goneO ps (stay 0) row).map some, goneR ps (stay 0) row)
  | m + 1, row => ((goneO ps (stay (m + 1)) row).map some ++ none :: (trace ps stay sv m (sv.getD m "" :: goneR ps (stay (m + 1)) row)).1, (trace ps stay sv m (sv.getD m "" :: goneR ps (stay (m + 1)) row)).2)
theorem Red.nd2 {s : List Str} {a row n : List Str} (r : Red ps s row n) : (a ++ row).Nodup → (a ++ n).Nodup := by
  induction r with
  | done _ => exact id
  | go x _ _ t ih => exact fun h => ih (nd_rem h)
/-! ### histories are such ways -/
def Free (stay : Nat → List Str) : Nat → List Deed → Prop
  | _, [] => True
  | m, none :: ds => Free stay (m + 1) ds
  | m, some x :: ds => x ∉ stay m ∧ Free stay m ds
theorem go_pre : ∀ (ds : List Deed) {st : List Str × List Str} {met : List Str} {st' : List Str × List Str}, goD ps ds st met = some st' → ∃ e, st'.2 = st.2 ++ e
  | [], st, met, st', h => by
    have e : st = st' := Option.some.inj h
    subst e
    exact ⟨[], by simp⟩
  | d :: ds, st, met, st', h => by
    have h' : (match stepD ps st met d with | none => none | some s2 => goD ps ds s2 (met ++ d.toList)) = some st' := h
    cases e : stepD ps st met d with
    | none => rw [e] at h'; cases h'
    | some s2 =>
      rw [e] at h'
      obtain ⟨e3, q⟩ := go_pre ds h'
      cases d with
      | none =>
        have e2 : (if st.1 = [] then none else some (st.1.drop 1, st.2 ++ st.1.take 1)) = some s2 := e
        by_cases c : st.1 = []
        · rw [if_pos c] at e2
          cases e2
        · rw [if_neg c] at e2
          have e5 := Option.some.inj e2
          subst e5
          exact ⟨st.1.take 1 ++ e3, by rw [q, List.append_assoc]⟩
      | some x =>
        have e2 : (if x ∈ met then none else some (comeTo ps st.1 x, st.2)) = some s2 := e
        by_cases c : x ∈ met
        · rw [if_pos c] at e2
          cases e2
        · rw [if_neg c] at e2
          have e5 := Option.some.inj e2
          subst e5
          exact ⟨e3, q⟩
theorem go_way : ∀ (ds : List Deed) {st0 gn0 met st gn : List Str}, goD ps ds (st0, gn0) met = some (st, gn) → (∀ x ∈ gn0 ++ st0, x ∈ met) → (gn0 ++ st0).Nodup → Free stay gn0.length ds → (∃ more, sv = gn ++ more) → Way ps stay sv gn0.length gn.length st ds.reverse st0
  | [], st0, gn0, met, st, gn, h, _, _, _, _ => by
    have e : (st0, gn0) = (st, gn) := Option.some.inj h
    have e1 : st0 = st := congrArg Prod.fst e
    have e2 : gn0 = gn := congrArg Prod.snd e
    subst e1
    subst e2
    exact .done _
  | none :: ds, st0, gn0, met, st, gn, h, hm, hd, hf, hs => by
    have h' : (match (if st0 = [] then none else some (st0.drop 1, gn0 ++ st0.take 1)) with | none => none | some s2 => goD ps ds s2 (met ++ [])) = some (st, gn) := h
    cases st0 with
    | nil =>
      rw [if_pos rfl] at h'
      cases h'
    | cons y st1 =>
      rw [if_neg (by simp), List.append_nil] at h'
      have h2 : goD ps ds (st1, gn0 ++ [y]) met = some (st, gn) := h'
      have hd2 : ((gn0 ++ [y]) ++ st1).Nodup := by
        rw [List.append_assoc]
        exact hd
      have l1 : (gn0 ++ [y]).length = gn0.length + 1 := by simp
      have w := go_way ds h2 (fun x hx => hm x (by simpa using hx)) hd2 (by rw [l1]; exact hf) hs
      rw [l1] at w
      obtain ⟨e, q⟩ := go_pre ds h2
      obtain ⟨more, hmore⟩ := hs
      have at_ : sv[gn0.length]? = some y := by
        rw [hmore, show gn = (gn0 ++ [y]) ++ e from q]
        simp
      rw [List.reverse_cons]
      exact w.trans (.back y at_ (.done _))
  | some x :: ds, st0, gn0, met, st, gn, h, hm, hd, hf, hs => by
    have h' : (match (if x ∈ met then none else some (comeTo ps st0 x, gn0)) with | none => none | some s2 => goD ps ds s2 (met ++ [x])) = some (st, gn) := h
    by_cases c : x ∈ met
    · rw [if_pos c] at h'
      cases h'
    · rw [if_neg c] at h'
      have h2 : goD ps ds (comeTo ps st0 x, gn0) (met ++ [x]) = some (st, gn) := h'
      have nx : x ∉ gn0 ++ st0 := fun z => c (hm x z)
      have pm : (gn0 ++ comeTo ps st0 x).Perm (x :: (gn0 ++ st0)) := (List.Perm.append_left _ (come_perm ps st0 x)).trans List.perm_middle
      have hd2 : (gn0 ++ comeTo ps st0 x).Nodup := pm.nodup_iff.mpr (List.nodup_cons.mpr ⟨nx, hd⟩)
      have w := go_way ds h2 (fun y hy => by
        rcases List.mem_cons.mp (pm.mem_iff.mp hy) with z | z
        · rw [z]
          simp
        · exact List.mem_append_left _ (hm y z)) hd2 hf.2 hs
      rw [List.reverse_cons]
      refine w.trans (.go x (come_loose ps st0 x) hf.1 ?_)
      rw [come_rem (List.nodup_cons.mpr ⟨fun z => nx (List.mem_append_right _ z), nd_right hd⟩)]
      exact .done _
end
/-! ### traced_back -/
def waitN (ws : Option (Str × Nat)) (m : Nat) : List Str := match ws with
  | none => []
  | some (w, n) => if n = m then [] else [w]
def stayF (elders : List Str) (ws : Option (Str × Nat)) (m : Nat) : List Str := elders ++ waitN ws m
/-- they all stand in the line, one behind the other -/
def InLine (line elders : List Str) : Prop := (∀ x ∈ elders, x ∈ line) ∧ elders.Pairwise fun x y => line.idxOf x ≤ line.idxOf y
end Lk
set_option maxRecDepth 100000
set_option maxHeartbeats 4000000
namespace Lk
open PySem PySem.Spec PyProof.Rows L2
end Lk
set_option maxRecDepth 100000
set_option maxHeartbeats 4000000
namespace Lk
open PySem PySem.Spec PyProof.Rows L2
/-! ### deeds that can be done -/
/-! ### ways, one behind the other -/
theorem Way.shift {ps : List (Str × Str)} {stay : Nat → List Str} {sv : List Str} {m0 m c : Nat} {row fin : List Str} {ds : List Deed} (h : Way ps (fun k => stay (k + c)) (sv.drop c) m0 m row ds fin) : Way ps stay sv (m0 + c) (m + c) row ds fin := by
  induction h with
  | done _ => exact .done _
  | go x h hs t ih => exact .go x h hs ih
  | @back m row ds fin y h t ih =>
    rw [show m + 1 + c = (m + c) + 1 by omega]
    refine .back y ?_ ih
    rw [List.getElem?_drop] at h
    rw [show m + c = c + m by omega]
    exact h
end Lk
set_option maxRecDepth 100000
set_option maxHeartbeats 4000000
namespace Lk
open PySem PySem.Spec PyProof.Rows L2
/-! ### set(ns), ns a list of ints, none of them twice -/
section
variable {P : Program} {w : World} {A : Around} {E : Value → Shared → Prop} {s : Shared}
end
section
variable {X : Cx}
end
end Lk
set_option maxRecDepth 100000
set_option maxHeartbeats 4000000
namespace Lk
open PySem PySem.Spec PyProof.Rows L2
/-! ### a def whose last parameter, by its name alone, has a default: a bare tuple -/
structure CalK (P : Program) (w : World) (K : PySem.W.Frag) (mg : Str → Option Value) (base : Heap) (k : Nat) (x : Str) (ps : List Str) (n : Nat) (kw : Str) (sp : Sp) (E : Addr) : Prop where
  ex : ∃ f fd, FnOk P w K mg base CX0 k f fd ps sp ∧ mg x = some (.ref f) ∧ PySem.W.keepIn K (.ref f) = true ∧ KBn K fd ps n [kw] (fun us ws => us ++ ws) (fun vs zs => vs ++ zs) ∧ ∃ ds, Vals [V.ref E] ds ∧ Binds K fd ps ds
  emp : ∃ (o : Obj) (n : Nat), K.lookup E = some o ∧ o.cls = .type "tuple" ∧ o.data = .seq #[] n
theorem CalK.but {P : Program} {w : World} {K : PySem.W.Frag} {mg : Str → Option Value} {base : Heap} {k n : Nat} {x kw : Str} {ps : List Str} {sp : Sp} {E : Addr} (C : CalK P w K mg base k x ps n kw sp E) (H : Hp) : ButKeeps K H E [] := by
  obtain ⟨o, n, h1, h2, h3⟩ := C.emp
  exact fun _ _ => .inr (.inr ⟨o, #[], n, h1, h2, h3, Nat.zero_le _, .nil⟩)
section
variable {X : Cx} {k m n : Nat} {x kw : Str} {ps : List Str} {sp : Sp} {D : Addr} {p pos : Pos} {e : Expr} {es : List Expr} {t tk : TA} {kws : List Keyword}
end
end Lk
set_option maxRecDepth 100000
set_option maxHeartbeats 4000000
namespace Lk
open PySem PySem.Spec PyProof.Rows L2
/-! ### a story in two parts -/
section
variable {ps : List (Str × Str)}
theorem stepD_none {st gn met : List Str} {s2 : List Str × List Str} (h : stepD ps (st, gn) met none = some s2) : ∃ y st1, st = y :: st1 ∧ s2 = (st1, gn ++ [y]) := by
  have e2 : (if st = [] then none else some (st.drop 1, gn ++ st.take 1)) = some s2 := h
  cases st with
  | nil => rw [if_pos rfl] at e2; cases e2
  | cons y st1 =>
    rw [if_neg (by simp)] at e2
    exact ⟨y, st1, rfl, (Option.some.inj e2).symm⟩
theorem stepD_some {st gn met : List Str} {x : Str} {s2 : List Str × List Str} (h : stepD ps (st, gn) met (some x) = some s2) : x ∉ met ∧ s2 = (comeTo ps st x, gn) := by
  have e2 : (if x ∈ met then none else some (comeTo ps st x, gn)) = some s2 := h
  by_cases c : x ∈ met
  · rw [if_pos c] at e2
    cases e2
  · rw [if_neg c] at e2
    exact ⟨c, (Option.some.inj e2).symm⟩
theorem goD_cons {d : Deed} {ds : List Deed} {st st' : List Str × List Str} {met : List Str} (h : goD ps (d :: ds) st met = some st') : ∃ s2, stepD ps st met d = some s2 ∧ goD ps ds s2 (met ++ d.toList) = some st' := by
  have h' : (match stepD ps st met d with | none => none | some s2 => goD ps ds s2 (met ++ d.toList)) = some st' := h
  cases e : stepD ps st met d with
  | none => rw [e] at h'; cases h'
  | some s2 =>
    rw [e] at h'
    exact ⟨s2, rfl, h'⟩
theorem come_sub (ps : List (Str × Str)) (st : List Str) (x : Str) : st.Sublist (comeTo ps st x) := by
  unfold comeTo
  rw [List.append_assoc]
  have h : (st.take (spotOf ps st x) ++ st.drop (spotOf ps st x)).Sublist (st.take (spotOf ps st x) ++ ([x] ++ st.drop (spotOf ps st x))) := List.Sublist.append_left (List.sublist_cons_self _ _) _
  rw [List.take_append_drop] at h
  exact h
/-- the line keeps its order -/
theorem go_sub : ∀ (ds : List Deed) {st gn met st' gn' : List Str}, goD ps ds (st, gn) met = some (st', gn') → (gn ++ st).Sublist (gn' ++ st')
  | [], st, gn, met, st', gn', h => by
    have e : (st, gn) = (st', gn') := Option.some.inj h
    cases e
    exact List.Sublist.refl _
  | d :: ds, st, gn, met, st', gn', h => by
    obtain ⟨s2, h1, h2⟩ := goD_cons h
    cases d with
    | none =>
      obtain ⟨y, st1, rfl, rfl⟩ := stepD_none h1
      have := go_sub ds h2
      rw [List.append_assoc] at this
      exact this
    | some x =>
      obtain ⟨nx, rfl⟩ := stepD_some h1
      exact (List.Sublist.append_left (come_sub ps st x) gn).trans (go_sub ds h2)
theorem inLine_self {line : List Str} (nd : line.Nodup) : line.Pairwise fun x y => line.idxOf x ≤ line.idxOf y := by
  rw [List.pairwise_iff_getElem]
  intro i j hi hj hij
  rw [idx_at nd (List.getElem?_eq_getElem hi), idx_at nd (List.getElem?_eq_getElem hj)]
  omega
theorem inLine_sub {line elders : List Str} (nd : line.Nodup) (h : elders.Sublist line) : InLine line elders := ⟨fun _ hx => h.subset hx, (inLine_self nd).sublist h⟩
theorem sub_filter : ∀ {line a : List Str}, a.Sublist line → line.Nodup → a = line.filter fun x => decide (x ∈ a)
  | _, _, .slnil, _ => rfl
  | _, a, .cons (l₂ := l) x h, nd => by
    have nx : x ∉ a := fun z => (List.nodup_cons.mp nd).1 (h.subset z)
    rw [List.filter_cons]
    simp only [nx, decide_false]
    exact sub_filter h (List.nodup_cons.mp nd).2
  | _, _, .cons₂ (l₁ := a) (l₂ := l) x h, nd => by
    rw [List.filter_cons]
    simp only [List.mem_cons, true_or, decide_true, if_true]
    refine congrArg (x :: ·) ?_
    have e := sub_filter h (List.nodup_cons.mp nd).2
    refine e.trans (List.filter_congr fun y hy => ?_)
    have ny : ¬ y = x := fun z => (List.nodup_cons.mp nd).1 (z ▸ hy)
    simp [ny]
theorem Way.keep {stay : Nat → List Str} {sv : List Str} {m : Nat} {row fin : List Str} {ds : List Deed} {x : Str} (h : Way ps stay sv 0 m row ds fin) (hs : ∀ k, x ∈ stay k) : x ∈ sv.take m ++ row → x ∈ fin := by
  induction h with
  | done _ => exact fun z => by simpa using z
  | go y h hy t ih =>
    refine fun z => ih ?_
    rcases List.mem_append.mp z with u | u
    · exact List.mem_append_left _ u
    · refine List.mem_append_right _ (List.mem_filter.mpr ⟨u, ?_⟩)
      have : ¬ x = y := fun e => hy (e ▸ hs _)
      simp [this]
  | back y h t ih =>
    rw [line_back h]
    exact ih
/-! ### when somebody came -/
/-- a story's beginning and the rest of it -/
structure Parts (ps : List (Str × Str)) (ds1 ds2 : List Deed) (here sb st e : List Str) : Prop where
  g1 : goD ps ds1 ([], []) [] = some (here, sb)
  g2 : goD ps ds2 (here, []) (comers ds1) = some (st, e)
  nd : (comers ds1 ++ comers ds2).Nodup
namespace Parts
variable {ds1 ds2 : List Deed} {here sb st e : List Str}
theorem p1 (h : Parts ps ds1 ds2 here sb st e) : (sb ++ here).Perm (comers ds1) := by
  have := go_perm _ _ _ _ h.g1
  simpa using this
theorem p2 (h : Parts ps ds1 ds2 here sb st e) : (e ++ st).Perm (comers ds2 ++ here) := by
  have := go_perm _ _ _ _ h.g2
  simpa using this
theorem n1 (h : Parts ps ds1 ds2 here sb st e) : (sb ++ here).Nodup := h.p1.nodup_iff.mpr (List.nodup_append.mp h.nd).1
theorem dj (h : Parts ps ds1 ds2 here sb st e) : ∀ y ∈ comers ds2, y ∉ sb ++ here := fun y hy z => (List.nodup_append.mp h.nd).2.2 y (h.p1.mem_iff.mp z) y hy rfl
theorem n2 (h : Parts ps ds1 ds2 here sb st e) : (e ++ st).Nodup := h.p2.nodup_iff.mpr (List.nodup_append.mpr ⟨(List.nodup_append.mp h.nd).2.1, (List.nodup_append.mp h.n1).2.1, fun x hx y hy e => h.dj x hx (by rw [e]; exact List.mem_append_right _ hy)⟩)
theorem n3 (h : Parts ps ds1 ds2 here sb st e) : ((sb ++ e) ++ st).Nodup := by
  rw [List.append_assoc]
  refine List.nodup_append.mpr ⟨(List.nodup_append.mp h.n1).1, h.n2, fun x hx y hy q => ?_⟩
  subst q
  rcases List.mem_append.mp (h.p2.mem_iff.mp hy) with z | z
  · exact h.dj x z (List.mem_append_left _ hx)
  · exact (List.nodup_append.mp h.n1).2.2 x hx x z rfl
theorem w1 (h : Parts ps ds1 ds2 here sb st e) {stay : Nat → List Str} (hf : Free stay 0 ds1) : Way ps stay sb 0 sb.length here ds1.reverse [] := go_way ds1 h.g1 (fun _ z => nomatch z) List.nodup_nil hf ⟨[], (List.append_nil _).symm⟩
theorem w2 (h : Parts ps ds1 ds2 here sb st e) {stay : Nat → List Str} (hf : Free stay 0 ds2) : Way ps stay e 0 e.length st ds2.reverse here :=
  go_way ds2 h.g2 (fun x z => h.p1.mem_iff.mp (List.mem_append_right _ (by simpa using z))) (by simpa using (List.nodup_append.mp h.n1).2.1) hf ⟨[], (List.append_nil _).symm⟩
theorem far (h : Parts ps ds1 ds2 here sb st e) {stay : Nat → List Str} {d : List Deed} {m : List Str} (hw : Way ps (fun k => stay (k + sb.length)) e 0 e.length st d m) : Way ps stay (sb ++ e) sb.length (sb ++ e).length st d m := by
  have e1 : (sb ++ e).drop sb.length = e := by simp
  have := Way.shift (ps := ps) (stay := stay) (sv := sb ++ e) (m0 := 0) (m := e.length) (c := sb.length) (row := st) (fin := m) (ds := d) (by rw [e1]; exact hw)
  rw [Nat.zero_add, show e.length + sb.length = (sb ++ e).length by rw [List.length_append]; omega] at this
  exact this
theorem line (h : Parts ps ds1 ds2 here sb st e) : InLine (e ++ st) here := inLine_sub h.n2 (by simpa using go_sub ds2 h.g2)
end Parts
end

/-! ### comprehensions that leave some out -/
section
variable {J : It} {n : Nat} {G : Hp → Prop} {Y : Nat → Hp → V → Hp → Prop} {g : TG} {tt : TT} {te : TE} {vs : List Nat} {σ : L2.St} {H1 : Hp} {D : Addr} {Qd : Hp → Prop}
theorem lc_pick {α : Type} (w : Walk J n G Y) (xs : List α) (f : α → V) (p : α → Bool) (hl : xs.length = n) (hn : n ≤ 1000) (hD : H1 D = none) (hG : ∀ H', Same H1 H' → G H')
    (hs : ∀ (i : Nat) (x : α) (v : V) (H H' : Hp) (k : V → Hp → Prop) (k0 : Hp → Prop), xs[i]? = some x → Same H1 H → Y i H v H' → (p x = true → ∀ H4, Same H H4 → k (f x) H4) → (p x = false → ∀ H4, Same H H4 → k0 H4) →
      g v (wipe σ vs) H' fun σ2 H2 => wipe σ2 vs = wipe σ vs ∧ tt σ2 H2 fun b H3 => if b = true then te σ2 H3 k else k0 H3)
    (hd : ∀ H, Same H1 H → H D = some (.lst ((xs.filter p).map f)) → Qd H) :
    ∃ W : Nat → Nat → Hp → Prop, (∃ m, W 0 m (upd H1 D (.lst []))) ∧ ∀ i m H, W i m H →
      (J.stop i H ∧ Qd H) ∨ (J.go i H ∧ ∃ Nx : Hp → Prop, (∀ H', Nx H' → ∃ m', m' < m ∧ W (i + 1) m' H') ∧ ∀ x H', J.yld i H x H' → g x (wipe σ vs) H' fun σ2 H2 => wipe σ2 vs = wipe σ vs ∧ tt σ2 H2 fun b H3 =>
        if b = true then te σ2 H3 fun y H4 => ∃ acc, H4 D = some (.lst acc) ∧ acc.length < sizeLine ∧ Nx (upd H4 D (.lst (acc ++ [y]))) else Nx H3) := by
  refine lc_it w (fun i H' => Same H1 H' ∧ H' D = some (.lst (((xs.take i).filter p).map f))) ⟨same_upd hD, upd_same⟩ (fun i H' _ h => hG H' h.1) ?_ ?_
  · rintro i v H H' hi ⟨s1, d1⟩ y
    obtain ⟨x, hx⟩ : ∃ x, xs[i]? = some x := ⟨xs[i]'(by omega), List.getElem?_eq_getElem (by omega)⟩
    have ft : (xs.take (i + 1)).filter p = (xs.take i).filter p ++ if p x = true then [x] else [] := by
      rw [List.take_add_one, hx, List.filter_append]
      show _ ++ List.filter p [x] = _
      rw [List.filter_cons, List.filter_nil]
    refine hs i x v H H' _ _ hx s1 y (fun c H4 s4 => ?_) (fun c H4 s4 => ?_)
    · rw [if_pos c] at ft
      refine ⟨_, s4 _ _ d1, ?_, fun b o e => ?_, ?_⟩
      · rw [List.length_map]
        exact small1000 (Nat.le_trans (List.length_filter_le _ _) (by rw [List.length_take]; omega))
      · rw [upd_ne (ne_of_none e hD)]
        exact s4 _ _ (s1 _ _ e)
      · rw [upd_same, ft, List.map_append]
        rfl
    · rw [if_neg (by rw [c]; exact Bool.false_ne_true), List.append_nil] at ft
      exact ⟨s1.trans s4, by rw [ft]; exact s4 _ _ d1⟩
  · rintro H ⟨s1, d1⟩
    rw [List.take_of_length_le (by omega)] at d1
    exact hd H s1 d1
end
/-! ### deeds as data -/
/-! ### lists of whole numbers -/
section
variable {X : Cx}
end
end Lk
set_option maxRecDepth 100000
set_option maxHeartbeats 4000000
namespace Lk
open PySem PySem.Spec PyProof.Rows L2

/-! ### behind whom one came -/
/-- the name at a place -/
def nameAt (row : List Str) : Option Nat → Option Str
  | none => none
  | some k => row[k]?
end Lk
set_option maxRecDepth 100000
set_option maxHeartbeats 4000000
namespace Lk
open PySem PySem.Spec PyProof.Rows L2

/-! ### lists of lists -/
abbrev LA := Addr × List Str
def ListsAt (H : Hp) (ls : List LA) : Prop := ∀ q ∈ ls, H q.1 = some (.lst (q.2.map V.str))
theorem ListsAt.same {H H' : Hp} {ls : List LA} (s : Same H H') (h : ListsAt H ls) : ListsAt H' ls := fun q hq => s _ _ (h q hq)
theorem ListsAt.app {H : Hp} {ls ms : List LA} (h : ListsAt H ls) (h' : ListsAt H ms) : ListsAt H (ls ++ ms) := fun q hq => (List.mem_append.mp hq).elim (h q) (h' q)
theorem nd_perm {c pool : List Str} (h1 : c.Nodup) (h2 : pool.Nodup) (sub : ∀ x ∈ c, x ∈ pool) (e : c.length = pool.length) : c.Perm pool := by
  refine (List.perm_ext_iff_of_nodup h1 h2).mpr fun y => ⟨sub y, fun hy => ?_⟩
  refine Classical.byContradiction fun n => ?_
  have := nd_len (y :: c) pool (List.nodup_cons.mpr ⟨n, h1⟩) fun z hz => (List.mem_cons.mp hz).elim (fun q => q ▸ hy) (sub z)
  rw [List.length_cons] at this
  omega
theorem bars_words {ps : List (Str × Str)} {row : List Str} {a b : Str} (hd : row.Nodup) (ha : a ∈ row) (hb : b ∈ row) : Bars ps row a b ↔ wordsAt ps row a b ≠ [] := by
  constructor
  · rintro ⟨w, h⟩ e
    have := (words_mem hd ha hb).mpr h
    rw [e] at this
    cases this
  · intro h
    cases e : wordsAt ps row a b with
    | nil => exact absurd e h
    | cons w l => exact ⟨w, (words_mem hd ha hb).mp (by rw [e]; exact List.mem_cons_self)⟩
end Lk
set_option maxRecDepth 100000
set_option maxHeartbeats 4000000
namespace Lk
open PySem PySem.Spec PyProof.Rows L2

/-! ### small things that can be written -/
structure Fit (n w : Nat) (d : PyData) : Prop where
  sh : d.showable = true
  nd : d.hasDict = false
  dp : d.depth ≤ n
  lv : d.leavesShort 13 = true
  wt : d.weight ≤ w
theorem Fit.mono {n w n' w' : Nat} {d : PyData} (h : Fit n w d) (h1 : n ≤ n') (h2 : w ≤ w') : Fit n' w' d := ⟨h.sh, h.nd, Nat.le_trans h.dp h1, h.lv, Nat.le_trans h.wt h2⟩
theorem Fit.fits {n w : Nat} {d : PyData} (h : Fit n w d) (hw : w ≤ 1048576) : d.shown.length ≤ sizeLine := PyData.shown_fits (B := 13) (by decide) (by decide) h.lv (Nat.le_trans h.wt (Nat.le_trans hw (by decide)))
theorem log2_40 {n : Nat} (h : n < 10 ^ 12) : n.log2 < 40 := by
  by_cases z : n = 0
  · subst z
    decide
  · exact (Nat.log2_lt z).mpr (Nat.lt_of_lt_of_le h (by decide))
theorem fit_str {x : Str} {m : Nat} (h : Good x) (hm : x.length ≤ m) : Fit 0 m (.str x) := by
  refine ⟨by simp only [PyData.showable], by simp only [PyData.hasDict], by simp only [PyData.depth, Nat.le_refl], ?_, by simp only [PyData.weight]; exact hm⟩
  simp only [PyData.leavesShort, List.all_eq_true, decide_eq_true_eq]
  intro c hc
  have h0 : x.cps.all (· < 0x110000) = true := h
  rw [← Array.all_toList, List.all_eq_true] at h0
  have := of_decide_eq_true (h0 c hc)
  have e : (16 : Nat) ^ 8 = 4294967296 := by decide
  omega
theorem fit_all {n w : Nat} : ∀ {ds : List PyData}, (∀ d ∈ ds, Fit n w d) → PyData.showableAll ds = true ∧ PyData.hasDictAll ds = false ∧ PyData.depthAll ds ≤ n ∧ PyData.leavesShortAll 13 ds = true ∧ PyData.weightAll ds ≤ (w + 1) * ds.length
  | [], _ => ⟨by simp only [PyData.showableAll], by simp only [PyData.hasDictAll], by simp only [PyData.depthAll]; exact Nat.zero_le _, by simp only [PyData.leavesShortAll], by simp only [PyData.weightAll]; exact Nat.zero_le _⟩
  | d :: ds, h => by
    obtain ⟨i1, i2, i3, i4, i5⟩ := fit_all (ds := ds) fun e he => h e (List.mem_cons_of_mem _ he)
    have f := h d List.mem_cons_self
    refine ⟨?_, ?_, ?_, ?_, ?_⟩
    · simp only [PyData.showableAll, f.sh, i1, Bool.and_self]
    · simp only [PyData.hasDictAll, f.nd, i2, Bool.or_self]
    · simp only [PyData.depthAll]
      exact Nat.max_le.mpr ⟨f.dp, i3⟩
    · simp only [PyData.leavesShortAll, f.lv, i4, Bool.and_self]
    · simp only [PyData.weightAll, List.length_cons]
      rw [Nat.mul_add, Nat.mul_one]
      have := f.wt
      omega
theorem fit_tuple {n w m : Nat} {ds : List PyData} (h : ∀ d ∈ ds, Fit n w d) (hm : ds.length ≤ m) : Fit (n + 1) ((w + 1) * m) (.tuple ds) := by
  obtain ⟨i1, i2, i3, i4, i5⟩ := fit_all h
  refine ⟨by simp only [PyData.showable, i1], by simp only [PyData.hasDict, i2], by simp only [PyData.depth]; omega, by simp only [PyData.leavesShort, i4], ?_⟩
  simp only [PyData.weight]
  exact Nat.le_trans i5 (Nat.mul_le_mul_left _ hm)
/-- what is written of a thing -/
def Shown (K : PySem.W.Frag) (H : Hp) (x : V) (d : PyData) : Prop := (∃ a, x = .ref a) ∧ Dp K H x d ∧ ∃ n w, Fit n w d ∧ n ≤ 60 ∧ w ≤ 1048576
theorem Shown.mk_ {K : PySem.W.Frag} {H : Hp} {a : Addr} {d : PyData} {n w : Nat} (h : Dp K H (.ref a) d) (f : Fit n w d) (h1 : n ≤ 60 := by decide) (h2 : w ≤ 1048576 := by decide) : Shown K H (.ref a) d := ⟨⟨a, rfl⟩, h, n, w, f, h1, h2⟩
section
variable {X : Cx}
def rReprS (K : PySem.W.Frag) : List V → Hp → VK → Prop := fun xs H Q => ∃ (x : V) (d : PyData), xs = [x] ∧ Shown K H x d ∧ Q (.str d.shown) H
theorem call_reprS {k : Nat} (z : Room k X.A) : CallR X (.builtin "repr") (rReprS X.K) := by
  intro pins s σ H xs us Q I r h
  obtain ⟨x, d, rfl, ⟨⟨a, rfl⟩, hd, n, w, f, h1, h2⟩, q⟩ := h
  exact call_repr z pins s σ H _ us Q I r ⟨a, d, rfl, hd, f.sh, f.nd, Nat.le_trans f.dp h1, f.fits h2, q⟩
end
def spSameR (K : PySem.W.Frag) : Sp := fun vs H Q _ => ∃ (x y : V) (d : PyData), vs = [x, y] ∧ Shown K H x d ∧ Shown K H y d ∧ ∀ H', Same H H' → Q (.bl true) H'
theorem dpAll_map {α : Type} {K : PySem.W.Frag} {H : Hp} (f : α → V) (g : α → PyData) : ∀ {xs : List α}, (∀ x ∈ xs, Dp K H (f x) (g x)) → DpAll K H (xs.map f) (xs.map g)
  | [], _ => .nil
  | x :: xs, h => .cons (h x List.mem_cons_self) (dpAll_map f g fun y hy => h y (List.mem_cons_of_mem _ hy))
/-- friends, as they are written -/
def palsD (ps : List (Str × Str)) : PyData := .tuple (ps.map fun p => .tuple [.str p.1, .str p.2])
theorem PalsAt.dp {K : PySem.W.Frag} {H : Hp} {a : Addr} {ps : List (Str × Str)} (h : PalsAt H a ps) : Dp K H (.ref a) (palsD ps) := by
  obtain ⟨bs, h1, h2, rfl⟩ := h
  unfold palsD
  rw [List.map_map]
  refine .tup (.inl (.inl h1)) (dpAll_map _ _ fun b hb => ?_)
  exact .tup (.inl (.inl (h2 b hb))) (.cons (.str _) (.cons (.str _) .nil))
def strsTD (xs : List Str) : PyData := .tuple (xs.map .str)
theorem fit_strsT {xs : List Str} (h : ∀ x ∈ xs, Good x ∧ x.length ≤ 8) (hn : xs.length ≤ 100) : Fit 1 900 (strsTD xs) :=
  (fit_tuple (n := 0) (w := 8) (m := 100) (fun d hd => by obtain ⟨x, hx, rfl⟩ := List.mem_map.mp hd; exact fit_str (h x hx).1 (h x hx).2) (by rw [List.length_map]; exact hn)).mono (Nat.le_refl _) (by decide)
end Lk
set_option maxRecDepth 100000
set_option maxHeartbeats 4000000
namespace Lk
open PySem PySem.Spec PyProof.Rows L2

/-! ### neighbours exchanged -/
def swapL (l : List Str) (i : Nat) (x y : Str) : List Str := l.take i ++ [y, x] ++ l.drop (i + 2)
/-! ### how many pairs stand the other way about -/
theorem idxOf_ne {x y : Str} {l : List Str} (h : x ≠ y) : (x :: l).idxOf y = l.idxOf y + 1 := by
  rw [List.idxOf_cons]
  have : (x == y) = false := beq_eq_false_iff_ne.mpr h
  rw [this]
  rfl
theorem nodup_rev {l : List Str} (h : l.Nodup) : l.reverse.Nodup := (List.reverse_perm l).nodup_iff.mpr h
/-! ### promises -/
end Lk
set_option maxRecDepth 100000
set_option maxHeartbeats 4000000
namespace Lk
open PySem PySem.Spec PyProof.Rows L2

/-! ### hosts, as they are told -/
abbrev B3O := Addr × Str × Option Str
def optV : Option Str → V
  | none => .non
  | some y => .str y
def refsO (qs : List B3O) : List V := qs.map fun q => V.ref q.1
def PairsO (H : Hp) (qs : List B3O) : Prop := ∀ q ∈ qs, H q.1 = some (.tup [.str q.2.1, optV q.2.2])
theorem PairsO.same {H H' : Hp} {qs : List B3O} (s : Same H H') (h : PairsO H qs) : PairsO H' qs := fun b hb => s _ _ (h b hb)
theorem PairsO.upd_ {H : Hp} {l : Addr} {ys : List V} {o' : HO} {qs : List B3O} (hl : H l = some (.lst ys)) (h : PairsO H qs) : PairsO (upd H l o') qs := fun c hc => (upd_ne (ne_of (h c hc) hl (fun z => nomatch z))).trans (h c hc)
def hostO (ps : List (Str × Str)) (row : List Str) (x : Str) : Option Str := nameAt row (lastP (frd ps x) (row.take (row.idxOf x)))
def hungL (ps : List (Str × Str)) (row : List Str) (n : Nat) : List (Str × Option Str) := (row.take n).map fun x => (x, hostO ps row x)
theorem hungL_step {ps : List (Str × Str)} {row : List Str} {i : Nat} {x : Str} (h : row[i]? = some x) : hungL ps row (i + 1) = hungL ps row i ++ [(x, hostO ps row x)] := by
  unfold hungL
  rw [List.take_add_one, h, List.map_append]
  rfl
theorem hungL_len (ps : List (Str × Str)) (row : List Str) (n : Nat) : (hungL ps row n).length ≤ row.length := by
  unfold hungL
  rw [List.length_map, List.length_take]
  omega
theorem hostO_at {ps : List (Str × Str)} {row : List Str} {i : Nat} {x : Str} (hd : row.Nodup) (h : row[i]? = some x) : hostO ps row x = nameAt row (lastP (frd ps x) (row.take i)) := by
  unfold hostO
  rw [idx_at hd h]
/-! ### promises -/
def spSomeO : Sp := fun vs H Q _ => ∃ (a r : Addr) (ps : List (Str × Str)) (row : List Str), vs = [.ref a, .ref r] ∧ FrAt H a ps ∧ ps.length ≤ 1000 ∧ RowAt H r row ∧ row.Nodup ∧ row.length ≤ 100 ∧ goneR ps [] row = [] ∧
  ∀ p H', Same H H' → H p = none → H' p = some (.lst ((goneO ps [] row).reverse.map V.str)) → Q (.ref p) H'
def spHung : Sp := fun vs H Q _ => ∃ (a r : Addr) (ps : List (Str × Str)) (row : List Str), vs = [.ref a, .ref r] ∧ FrAt H a ps ∧ ps.length ≤ 1000 ∧ RowAt H r row ∧ row.Nodup ∧ row.length ≤ 100 ∧ goneR ps [] row = [] ∧
  ∀ p (qs : List B3O) H', Same H H' → H p = none → H' p = some (.lst (refsO qs)) → PairsO H' qs → qs.map (·.2) = hungL ps row row.length → Q (.ref p) H'
/-- whom each bars, and more -/
def LedTo (H : Hp) (D : Addr) (ps : List (Str × Str)) (stand : List Str) (n : Nat) : Prop := ∃ kvs, H D = some (.dK kvs) ∧ kvs.length ≤ 100 ∧ ∀ x ∈ stand.take n, ∃ (la : Addr) (ys : List Str), valV kvs (.inr x) = some (.ref la) ∧ H la = some (.lst (ys.map V.str)) ∧ ys.Nodup ∧ (∀ y ∈ ys, y ∈ stand) ∧ ∀ y ∈ stand, wordsAt ps stand x y ≠ [] → y ∈ ys
theorem LedTo.same {H H' : Hp} {D : Addr} {ps : List (Str × Str)} {stand : List Str} {n : Nat} (s : Same H H') (h : LedTo H D ps stand n) : LedTo H' D ps stand n := by
  obtain ⟨kvs, h1, hk, h2⟩ := h
  refine ⟨kvs, s _ _ h1, hk, fun x hx => ?_⟩
  obtain ⟨la, ys, q1, q2, q3⟩ := h2 x hx
  exact ⟨la, ys, q1, s _ _ q2, q3⟩
end Lk
set_option maxRecDepth 100000
set_option maxHeartbeats 4000000
namespace Lk
open PySem PySem.Spec PyProof.Rows L2
/-! ### from one to another by what bars -/
inductive Leads (ps : List (Str × Str)) (row : List Str) : Str → Str → Prop where
  | one {u v : Str} (hu : u ∈ row) (hv : v ∈ row) (h : Bars ps row u v) : Leads ps row u v
  | more {u w v : Str} (hu : u ∈ row) (hw : w ∈ row) (h : Bars ps row u w) (t : Leads ps row w v) : Leads ps row u v
section
variable {ps : List (Str × Str)} {row order : List Str}
theorem Leads.left {u v : Str} (h : Leads ps row u v) : u ∈ row := by
  cases h with
  | one hu _ _ => exact hu
  | more hu _ _ _ => exact hu
theorem Leads.right {u v : Str} (h : Leads ps row u v) : v ∈ row := by
  induction h with
  | one _ hv _ => exact hv
  | more _ _ _ _ ih => exact ih
theorem Leads.trans {u w v : Str} (h : Leads ps row u w) : Leads ps row w v → Leads ps row u v := by
  induction h with
  | one hu hv h => exact fun t => .more hu hv h t
  | more hu hw h t ih => exact fun k => .more hu hw h (ih k)
/-- an order of a row -/
structure OrdOf (ps : List (Str × Str)) (row order : List Str) : Prop where
  nd : order.Nodup
  pm : order.Perm row
  st : standOf ps order = row
theorem OrdOf.ndr (h : OrdOf ps row order) : row.Nodup := h.pm.nodup_iff.mp h.nd
theorem OrdOf.len (h : OrdOf ps row order) : order.length = row.length := h.pm.length_eq
theorem OrdOf.bars (h : OrdOf ps row order) (irr : Irr ps) : ∀ u ∈ row, ∀ v ∈ row, Bars ps row u v → order.idxOf u < order.idxOf v := (lin_iff irr _ order row rfl h.nd h.pm).mp h.st
theorem ordOf_of (irr : Irr ps) (hd : order.Nodup) (pm : order.Perm row) (h : ∀ u ∈ row, ∀ v ∈ row, Bars ps row u v → order.idxOf u < order.idxOf v) : OrdOf ps row order := ⟨hd, pm, (lin_iff irr _ order row rfl hd pm).mpr h⟩
theorem Leads.idx {u v : Str} (irr : Irr ps) (o : OrdOf ps row order) (h : Leads ps row u v) : order.idxOf u < order.idxOf v := by
  induction h with
  | one hu hv h => exact o.bars irr _ hu _ hv h
  | more hu hw h t ih => exact Nat.lt_trans (o.bars irr _ hu _ hw h) ih
theorem Leads.ne {u v : Str} (irr : Irr ps) (o : OrdOf ps row order) (h : Leads ps row u v) : u ≠ v := fun e => by
  have := h.idx irr o
  rw [e] at this
  omega
theorem Leads.no {u v : Str} (irr : Irr ps) (o : OrdOf ps row order) (h : Leads ps row u v) : ¬ Leads ps row v u := fun z => (h.trans z).ne irr o rfl
noncomputable def leadsB (ps : List (Str × Str)) (row : List Str) (x y : Str) : Bool := @decide (Leads ps row x y) (Classical.propDecidable _)
theorem leadsB_iff {x y : Str} : leadsB ps row x y = true ↔ Leads ps row x y := by
  unfold leadsB
  exact @decide_eq_true_iff _ (Classical.propDecidable _)
theorem leadsB_no {x y : Str} : leadsB ps row x y = false ↔ ¬ Leads ps row x y := by
  rw [← leadsB_iff, Bool.not_eq_true]
noncomputable def behL (ps : List (Str × Str)) (row : List Str) (x : Str) : List Str := row.filter (leadsB ps row x)
noncomputable def ahdL (ps : List (Str × Str)) (row : List Str) (x : Str) : List Str := row.filter fun y => leadsB ps row y x
theorem behL_mem {x y : Str} : y ∈ behL ps row x ↔ Leads ps row x y := by
  unfold behL
  rw [List.mem_filter, leadsB_iff]
  exact ⟨fun h => h.2, fun h => ⟨h.right, h⟩⟩
theorem ahdL_mem {x y : Str} : y ∈ ahdL ps row x ↔ Leads ps row y x := by
  unfold ahdL
  rw [List.mem_filter, leadsB_iff]
  exact ⟨fun h => h.2, fun h => ⟨h.left, h⟩⟩
theorem behL_nd {x : Str} (hd : row.Nodup) : (behL ps row x).Nodup := hd.sublist List.filter_sublist
theorem ahdL_nd {x : Str} (hd : row.Nodup) : (ahdL ps row x).Nodup := hd.sublist List.filter_sublist
theorem len_of_mem {xs ys : List Str} (h1 : xs.Nodup) (h2 : ys.Nodup) (h : ∀ z, z ∈ xs ↔ z ∈ ys) : xs.length = ys.length := ((List.perm_ext_iff_of_nodup h1 h2).mpr h).length_eq
/-! ### two parts of an order, one behind the other -/
theorem idx_app_left {a b : List Str} {x : Str} (h : x ∈ a) : (a ++ b).idxOf x = a.idxOf x := by rw [List.idxOf_append, if_pos h]
theorem idx_app_right {a b : List Str} {x : Str} (h : x ∉ a) : (a ++ b).idxOf x = b.idxOf x + a.length := by rw [List.idxOf_append, if_neg h]
theorem idx_filter {p : Str → Bool} {o : List Str} {u v : Str} (hd : o.Nodup) (hu : u ∈ o) (hv : v ∈ o) (pu : p u = true) (pv : p v = true) (h : o.idxOf u < o.idxOf v) : (o.filter p).idxOf u < (o.filter p).idxOf v := by
  have hl : o.idxOf u < o.length := List.idxOf_lt_length_iff.mpr hu
  have e := List.take_append_drop (o.idxOf v) o
  have mu : u ∈ o.take (o.idxOf v) := (mem_take_ix hd).mpr ⟨hu, h⟩
  have nv : v ∉ o.take (o.idxOf v) := fun z => absurd ((mem_take_ix hd).mp z).2 (Nat.lt_irrefl _)
  have ef : o.filter p = (o.take (o.idxOf v)).filter p ++ (o.drop (o.idxOf v)).filter p := by rw [← List.filter_append, e]
  rw [ef, idx_app_left (List.mem_filter.mpr ⟨mu, pu⟩), idx_app_right (fun z => nv (List.mem_filter.mp z).1)]
  have := List.idxOf_lt_length_iff.mpr (List.mem_filter.mpr ⟨mu, pu⟩)
  omega
/-- whoever is taken together with all that bar it may come ahead of all others -/
theorem ord_part (irr : Irr ps) (o : OrdOf ps row order) (p : Str → Bool) (hp : ∀ u ∈ row, ∀ v ∈ row, Bars ps row u v → p v = true → p u = true) : OrdOf ps row (order.filter p ++ order.filter fun x => !p x) := by
  have pm : (order.filter p ++ order.filter fun x => !p x).Perm order := List.filter_append_perm p order
  refine ordOf_of irr (pm.nodup_iff.mpr o.nd) (pm.trans o.pm) fun u hu v hv b => ?_
  have hlt := o.bars irr u hu v hv b
  have mu := o.pm.mem_iff.mpr hu
  have mv := o.pm.mem_iff.mpr hv
  cases pv : p v with
  | true =>
    have pu := hp u hu v hv b pv
    rw [idx_app_left (List.mem_filter.mpr ⟨mu, pu⟩), idx_app_left (List.mem_filter.mpr ⟨mv, pv⟩)]
    exact idx_filter o.nd mu mv pu pv hlt
  | false =>
    have nv : v ∉ order.filter p := fun z => by
      have := (List.mem_filter.mp z).2
      rw [pv] at this
      cases this
    rw [idx_app_right nv]
    cases pu : p u with
    | true =>
      rw [idx_app_left (List.mem_filter.mpr ⟨mu, pu⟩)]
      have := List.idxOf_lt_length_iff.mpr (List.mem_filter.mpr ⟨mu, pu⟩)
      omega
    | false =>
      have nu : u ∉ order.filter p := fun z => by
        have := (List.mem_filter.mp z).2
        rw [pu] at this
        cases this
      rw [idx_app_right nu]
      have := idx_filter (p := fun x => !p x) o.nd mu mv (by rw [pu]; rfl) (by rw [pv]; rfl) hlt
      omega
/-- the early order: those ahead of it, it, all others -/
noncomputable def earlyO (ps : List (Str × Str)) (row order : List Str) (x : Str) : List Str := order.filter (fun y => leadsB ps row y x) ++ [x] ++ order.filter fun y => !leadsB ps row y x && !decide (y = x)
noncomputable def lateO (ps : List (Str × Str)) (row order : List Str) (x : Str) : List Str := order.filter (fun y => !leadsB ps row x y && !decide (y = x)) ++ [x] ++ order.filter (leadsB ps row x)
theorem filter_or_first : ∀ {o : List Str} {p : Str → Bool} {x : Str}, o.Nodup → x ∈ o → p x = false → (∀ y ∈ o, p y = true → o.idxOf x < o.idxOf y) → o.filter (fun y => p y || decide (y = x)) = x :: o.filter p
  | [], p, x, _, h, _, _ => nomatch h
  | z :: o, p, x, hd, hx, px, h => by
    obtain ⟨nz, hd'⟩ := List.nodup_cons.mp hd
    by_cases c : z = x
    · subst c
      rw [List.filter_cons, List.filter_cons]
      simp only [px, Bool.false_or, decide_true, if_true]
      refine congrArg (z :: ·) ?_
      simp only [Bool.false_eq_true, if_false]
      exact List.filter_congr fun y hy => by
        have : ¬ y = z := fun q => nz (q ▸ hy)
        simp [this]
    · have hx' : x ∈ o := (List.mem_cons.mp hx).resolve_left fun q => c q.symm
      have pz : p z = false := Bool.eq_false_iff.mpr fun pz => by
        have := h z (List.mem_cons_self ..) pz
        rw [idxOf_ne c] at this
        have e0 : (z :: o).idxOf z = 0 := by simp
        omega
      have ih := filter_or_first hd' hx' px fun y hy py => by
        have := h y (List.mem_cons_of_mem _ hy) py
        have ny : z ≠ y := fun q => nz (q ▸ hy)
        rw [idxOf_ne ny, idxOf_ne c] at this
        omega
      rw [List.filter_cons, List.filter_cons, ih]
      simp [c, pz]
theorem late_ord (irr : Irr ps) (o : OrdOf ps row order) {x : Str} (hx : x ∈ row) : OrdOf ps row (lateO ps row order x) := by
  have h := ord_part irr o (fun y => !(leadsB ps row x y || decide (y = x))) fun u hu v hv b pv => by
    rw [Bool.not_eq_true'] at pv ⊢
    rw [Bool.or_eq_false_iff] at pv ⊢
    refine ⟨leadsB_no.mpr fun z => leadsB_no.mp pv.1 (z.trans (.one hu hv b)), decide_eq_false fun z => ?_⟩
    subst z
    exact leadsB_no.mp pv.1 (.one hu hv b)
  have e2 : (order.filter fun y => !(!(leadsB ps row x y || decide (y = x)))) = order.filter fun y => leadsB ps row x y || decide (y = x) := List.filter_congr fun y _ => by rw [Bool.not_not]
  rw [e2, filter_or_first (p := leadsB ps row x) o.nd (o.pm.mem_iff.mpr hx) (leadsB_no.mpr fun z => z.ne irr o rfl) (fun y hy py => (leadsB_iff.mp py).idx irr o)] at h
  have e : (order.filter fun y => !(leadsB ps row x y || decide (y = x))) = order.filter fun y => !leadsB ps row x y && !decide (y = x) := List.filter_congr fun y _ => by rw [Bool.not_or]
  rw [e] at h
  unfold lateO
  rw [List.append_assoc]
  exact h
theorem late_idx (irr : Irr ps) (o : OrdOf ps row order) {x : Str} (hx : x ∈ row) : (lateO ps row order x).idxOf x + 1 + (behL ps row x).length = row.length := by
  unfold lateO
  have n1 : x ∉ order.filter (fun y => !leadsB ps row x y && !decide (y = x)) := fun z => by
    have := (List.mem_filter.mp z).2
    simp at this
  have e1 : (order.filter (leadsB ps row x)).length = (behL ps row x).length := len_of_mem (o.nd.sublist List.filter_sublist) (behL_nd o.ndr) fun z => by
    rw [behL_mem, List.mem_filter, leadsB_iff]
    exact ⟨fun h => h.2, fun h => ⟨o.pm.mem_iff.mpr h.right, h⟩⟩
  have ln := (late_ord irr o hx).len
  unfold lateO at ln
  rw [List.length_append, List.length_append, e1] at ln
  rw [List.append_assoc, idx_app_right n1]
  have e0 : ([x] ++ order.filter (leadsB ps row x)).idxOf x = 0 := by simp
  rw [e0]
  have : ([x] : List Str).length = 1 := rfl
  omega
end
end Lk
set_option maxRecDepth 100000
set_option maxHeartbeats 4000000
namespace Lk
open PySem PySem.Spec PyProof.Rows L2
section
variable {X : Cx}
def tTr (K : PySem.W.Frag) (ta : TE) : TT := fun σ H Q => ta σ H fun x H' => ∃ k, TruV K x H' k ∧ Q k H'
theorem pt_tr {a : Expr} {ta : TE} (ha : PE X a ta) (he : ∀ whole, isTrue a X.env whole = (do let v ← whole; standAt a.pos; holding [v] (truthy v)) := by intro _; rfl) : PT X a (tTr X.K ta) := pt_truth ha he
end
/-! ### a dict that is locked for a walk -/
theorem same_unlock {H H' : Hp} {d : Addr} {u : HO} {od : Obj} (hd : H d = some u) (s : Same (upd H d (.frz od u)) H') : Same H (upd H' d u) := fun b o z => by
  by_cases c : b = d
  · subst c
    rw [upd_same, ← hd]
    exact z
  · rw [upd_ne c]
    exact s _ _ ((upd_ne c).trans z)
theorem lock_at {H : Hp} {d x : Addr} {u o v : HO} (hx : H x = some o) (ne : x ≠ d) : upd H d v x = some o := (upd_ne ne).trans hx
/-! ### dicts whose values are all True -/
def trueK (ys : List Str) : List (Key × V) := ys.map fun y => ((Sum.inr y : Key), V.bl true)
def SetD (H : Hp) (d : Addr) (ys : List Str) : Prop := H d = some (.dK (trueK ys))
def addS (ys : List Str) (y : Str) : List Str := if y ∈ ys then ys else ys ++ [y]
theorem addS_mem {ys : List Str} {y z : Str} : z ∈ addS ys y ↔ z ∈ ys ∨ z = y := by
  unfold addS
  split
  · rename_i h
    exact ⟨.inl, fun q => q.elim id fun e => e ▸ h⟩
  · simp
theorem addS_nd {ys : List Str} {y : Str} (h : ys.Nodup) : (addS ys y).Nodup := by
  unfold addS
  split
  · exact h
  · rename_i c
    exact ((List.perm_append_singleton y ys).nodup_iff).mpr (List.nodup_cons.mpr ⟨c, h⟩)
theorem trueK_any (ys : List Str) (y : Str) : ((trueK ys).any fun kv => decide (kv.1 = (Sum.inr y : Key))) = decide (y ∈ ys) := by
  unfold trueK
  rw [List.any_map]
  induction ys with
  | nil => rfl
  | cons z r ih =>
    rw [List.any_cons, ih]
    by_cases c : z = y
    · subst c
      simp
    · have c' : ¬ y = z := fun q => c q.symm
      simp [c, c']
theorem trueK_put (ys : List Str) (y : Str) : putK (trueK ys) (Sum.inr y : Key) (V.bl true) = trueK (addS ys y) := by
  unfold putK addS
  rw [trueK_any]
  by_cases c : y ∈ ys
  · rw [if_pos (decide_eq_true c), if_pos c]
    unfold trueK
    rw [List.map_map]
    refine List.map_congr_left fun z _ => ?_
    show (if (Sum.inr z : Key) = Sum.inr y then ((Sum.inr z : Key), V.bl true) else ((Sum.inr z : Key), V.bl true)) = _
    split <;> rfl
  · rw [if_neg (by rw [decide_eq_false c]; exact Bool.false_ne_true), if_neg c]
    unfold trueK
    rw [List.map_append]
    rfl
theorem trueK_val (ys : List Str) (y : Str) : valV (trueK ys) (Sum.inr y : Key) = if y ∈ ys then some (.bl true) else none := by
  unfold trueK
  induction ys with
  | nil => rfl
  | cons z r ih =>
    rw [List.map_cons]
    by_cases c : z = y
    · subst c
      rw [valV_pos rfl, if_pos (List.mem_cons_self ..)]
    · rw [show valV (((Sum.inr z : Key), V.bl true) :: r.map fun y => ((Sum.inr y : Key), V.bl true)) (Sum.inr y) = valV (r.map fun y => ((Sum.inr y : Key), V.bl true)) (Sum.inr y) from by
        unfold valV
        rw [List.find?_cons]
        simp [c]]
      rw [ih]
      have c' : ¬ y = z := fun q => c q.symm
      simp [c']
/-! ### who came behind whom -/
abbrev B4 := Str × Addr × List Str
def behK (qs : List B4) : List (Key × V) := qs.map fun q => ((Sum.inr q.1 : Key), V.ref q.2.1)
def BehAt (H : Hp) (D : Addr) (ps : List (Str × Str)) (row xs : List Str) : Prop := ∃ qs : List B4, H D = some (.dK (behK qs)) ∧ qs.map (·.1) = xs ∧ ∀ q ∈ qs, SetD H q.2.1 q.2.2 ∧ q.2.2.Nodup ∧ ∀ y, y ∈ q.2.2 ↔ Leads ps row q.1 y
theorem BehAt.same {H H' : Hp} {D : Addr} {ps : List (Str × Str)} {row xs : List Str} (s : Same H H') (h : BehAt H D ps row xs) : BehAt H' D ps row xs := by
  obtain ⟨qs, h1, h2, h3⟩ := h
  exact ⟨qs, s _ _ h1, h2, fun q hq => ⟨s _ _ (h3 q hq).1, (h3 q hq).2⟩⟩
theorem behK_val {qs : List B4} {x : Str} (nd : (qs.map (·.1)).Nodup) {q : B4} (hq : q ∈ qs) (e : q.1 = x) : valV (behK qs) (Sum.inr x : Key) = some (.ref q.2.1) := by
  subst e
  unfold behK
  induction qs with
  | nil => cases hq
  | cons z r ih =>
    rw [List.map_cons]
    have nd' := List.nodup_cons.mp (show (z.1 :: r.map (·.1)).Nodup from nd)
    rcases List.mem_cons.mp hq with c | c
    · subst c
      exact valV_pos rfl
    · have ne : ¬ z.1 = q.1 := fun e => nd'.1 (by rw [e]; exact List.mem_map.mpr ⟨q, c, rfl⟩)
      rw [show valV (((Sum.inr z.1 : Key), V.ref z.2.1) :: r.map fun q => ((Sum.inr q.1 : Key), V.ref q.2.1)) (Sum.inr q.1) = valV (r.map fun q => ((Sum.inr q.1 : Key), V.ref q.2.1)) (Sum.inr q.1) from by
        unfold valV
        rw [List.find?_cons]
        simp [ne]]
      exact ih nd'.2 c
theorem behK_none {qs : List B4} {x : Str} (h : x ∉ qs.map (·.1)) : valV (behK qs) (Sum.inr x : Key) = none := by
  unfold behK valV
  rw [List.find?_eq_none.mpr fun kv hkv => ?_]
  · rfl
  · obtain ⟨q, hq, rfl⟩ := List.mem_map.mp hkv
    have : ¬ q.1 = x := fun e => h (e ▸ List.mem_map.mpr ⟨q, hq, rfl⟩)
    simp [this]
/-- whom each bars -/
def barsL (ps : List (Str × Str)) (row : List Str) (x : Str) : List Str := row.filter fun y => !decide (wordsAt ps row x y = [])
theorem barsL_mem {ps : List (Str × Str)} {row : List Str} {x y : Str} (hd : row.Nodup) (hx : x ∈ row) : y ∈ barsL ps row x ↔ y ∈ row ∧ Bars ps row x y := by
  unfold barsL
  rw [List.mem_filter, Bool.not_eq_true', decide_eq_false_iff_not]
  exact ⟨fun h => ⟨h.1, (bars_words hd hx h.1).mpr h.2⟩, fun h => ⟨h.1, (bars_words hd hx h.1).mp h.2⟩⟩
def BarAt (H : Hp) (D : Addr) (ps : List (Str × Str)) (row : List Str) (n : Nat) : Prop := ∃ kvs, H D = some (.dK kvs) ∧ kvs.length ≤ n ∧ ∀ x ∈ row.take n, ∃ la, valV kvs (.inr x) = some (.ref la) ∧ H la = some (.lst ((barsL ps row x).map V.str))
theorem BarAt.same {H H' : Hp} {D : Addr} {ps : List (Str × Str)} {row : List Str} {n : Nat} (s : Same H H') (h : BarAt H D ps row n) : BarAt H' D ps row n := by
  obtain ⟨kvs, h1, h2, h3⟩ := h
  refine ⟨kvs, s _ _ h1, h2, fun x hx => ?_⟩
  obtain ⟨la, e1, e2⟩ := h3 x hx
  exact ⟨la, e1, s _ _ e2⟩
def spBarredIn : Sp := fun vs H Q _ => ∃ (a r : Addr) (ps : List (Str × Str)) (row : List Str), vs = [.ref a, .ref r] ∧ FrAt H a ps ∧ ps.length ≤ 1000 ∧ RowAt H r row ∧ row.Nodup ∧ row.length ≤ 100 ∧
  ∀ D H', Same H H' → H D = none → BarAt H' D ps row row.length → Q (.ref D) H'
def spCameB : Sp := fun vs H Q _ => ∃ (a r : Addr) (ps : List (Str × Str)) (row : List Str), vs = [.ref a, .ref r] ∧ FrAt H a ps ∧ ps.length ≤ 1000 ∧ Irr ps ∧ RowAt H r row ∧ row.Nodup ∧ row.length ≤ 100 ∧ goneR ps [] row = [] ∧
  ∀ D H', Same H H' → H D = none → BehAt H' D ps row (goneO ps [] row) → Q (.ref D) H'
def spNeeded : Sp := fun vs H Q _ => ∃ (D : Addr) (ps : List (Str × Str)) (row xs : List Str) (who : Str), vs = [.ref D, .str who] ∧ BehAt H D ps row xs ∧ xs.Nodup ∧ xs.length ≤ 100 ∧
  ∀ p H', Same H H' → H p = none → H' p = some (.lst ((xs.filter fun x => leadsB ps row x who).map V.str)) → Q (.ref p) H'
/-- what goes first leads nowhere that is left -/
theorem gone_order {ps : List (Str × Str)} {row : List Str} (irr : Irr ps) (hd : row.Nodup) (h : goneR ps [] row = []) : OrdOf ps row (goneO ps [] row).reverse := by
  have st := gone_stand irr row.length row rfl hd h
  have pm : (goneO ps [] row).reverse.Perm row := by
    have := stand_perm ps (goneO ps [] row).reverse
    rw [st] at this
    exact this.symm
  exact ⟨pm.nodup_iff.mpr hd, pm, st⟩

/-! ### put back at least, at most -/
section
variable {ps : List (Str × Str)} {row order : List Str}
noncomputable def leastN (ps : List (Str × Str)) (row : List Str) (x : Str) (i : Nat) : Nat := ((row.take i).filter (leadsB ps row x)).length
noncomputable def mostN (ps : List (Str × Str)) (row : List Str) (x : Str) (i : Nat) : Nat := ((row.take i).filter fun y => !leadsB ps row y x).length
noncomputable def boundsL (ps : List (Str × Str)) (row : List Str) (n : Nat) : List (Str × Nat × Nat) := (row.zipIdx.take n).map fun p => (p.1, leastN ps row p.1 p.2, mostN ps row p.1 p.2)
theorem boundsL_step {i : Nat} {x : Str} (h : row[i]? = some x) : boundsL ps row (i + 1) = boundsL ps row i ++ [(x, leastN ps row x i, mostN ps row x i)] := by
  have e : row.zipIdx[i]? = some (x, i) := by
    rw [List.getElem?_zipIdx, h]
    simp
  unfold boundsL
  rw [List.take_add_one, e, List.map_append]
  rfl
theorem boundsL_len (ps : List (Str × Str)) (row : List Str) {n : Nat} (h : n ≤ row.length) : (boundsL ps row n).length = n := by
  unfold boundsL
  rw [List.length_map, List.length_take, List.length_zipIdx]
  omega
end
/-! ### triples of a name and two numbers -/
abbrev B3T := Addr × Str × Nat × Nat
def refsT (qs : List B3T) : List V := qs.map fun q => V.ref q.1
def TripAt (H : Hp) (qs : List B3T) : Prop := ∀ q ∈ qs, H q.1 = some (.tup [.str q.2.1, .int q.2.2.1, .int q.2.2.2])
theorem TripAt.same {H H' : Hp} {qs : List B3T} (s : Same H H') (h : TripAt H qs) : TripAt H' qs := fun b hb => s _ _ (h b hb)
theorem TripAt.upd_ {H : Hp} {l : Addr} {ys : List V} {o' : HO} {qs : List B3T} (hl : H l = some (.lst ys)) (h : TripAt H qs) : TripAt (upd H l o') qs := fun c hc => (upd_ne (ne_of (h c hc) hl (fun z => nomatch z))).trans (h c hc)
/-! ### promises -/
def spBounds : Sp := fun vs H Q _ => ∃ (a r : Addr) (ps : List (Str × Str)) (row : List Str), vs = [.ref a, .ref r] ∧ FrAt H a ps ∧ ps.length ≤ 1000 ∧ Irr ps ∧ RowAt H r row ∧ row.Nodup ∧ row.length ≤ 100 ∧ goneR ps [] row = [] ∧
  ∀ p (qs : List B3T) H', Same H H' → H p = none → H' p = some (.lst (refsT qs)) → TripAt H' qs → qs.map (·.2) = boundsL ps row row.length → Q (.ref p) H'
/-- the dict of whom each leads to, by the law -/
def AftAt (H : Hp) (D : Addr) (ps : List (Str × Str)) (row xs : List Str) : Prop := ∃ kvs, H D = some (.dK kvs) ∧ kvs.length ≤ xs.length ∧ ∀ x ∈ xs, ∃ (la : Addr) (ys : List Str), valV kvs (.inr x) = some (.ref la) ∧ H la = some (.lst (ys.map V.str)) ∧ ys.Nodup ∧ ∀ y, y ∈ ys ↔ Leads ps row x y
theorem AftAt.same {H H' : Hp} {D : Addr} {ps : List (Str × Str)} {row xs : List Str} (s : Same H H') (h : AftAt H D ps row xs) : AftAt H' D ps row xs := by
  obtain ⟨kvs, h1, h2, h3⟩ := h
  refine ⟨kvs, s _ _ h1, h2, fun x hx => ?_⟩
  obtain ⟨la, ys, e1, e2, e3⟩ := h3 x hx
  exact ⟨la, ys, e1, s _ _ e2, e3⟩
/-- whom each bars, and more, but none that it does not lead to -/
def LedX (H : Hp) (D : Addr) (ps : List (Str × Str)) (stand : List Str) (n : Nat) : Prop := ∃ kvs, H D = some (.dK kvs) ∧ kvs.length ≤ 100 ∧ ∀ x ∈ stand.take n, ∃ (la : Addr) (ys : List Str), valV kvs (.inr x) = some (.ref la) ∧ H la = some (.lst (ys.map V.str)) ∧ ys.Nodup ∧ (∀ y ∈ ys, Leads ps stand x y) ∧ ∀ y ∈ stand, wordsAt ps stand x y ≠ [] → y ∈ ys
theorem LedX.same {H H' : Hp} {D : Addr} {ps : List (Str × Str)} {stand : List Str} {n : Nat} (s : Same H H') (h : LedX H D ps stand n) : LedX H' D ps stand n := by
  obtain ⟨kvs, h1, hk, h2⟩ := h
  refine ⟨kvs, s _ _ h1, hk, fun x hx => ?_⟩
  obtain ⟨la, ys, q1, q2, q3⟩ := h2 x hx
  exact ⟨la, ys, q1, s _ _ q2, q3⟩
/-- rows of pairs, one of each order -/
abbrev LN := Addr × List B3N
def RowsAt (H : Hp) (rs : List LN) : Prop := ∀ r ∈ rs, H r.1 = some (.lst (refsN r.2)) ∧ PairsN H r.2
theorem RowsAt.same {H H' : Hp} {rs : List LN} (s : Same H H') (h : RowsAt H rs) : RowsAt H' rs := fun r hr => ⟨s _ _ (h r hr).1, (h r hr).2.same s⟩
end Lk
set_option maxRecDepth 100000
set_option maxHeartbeats 4000000
namespace Lk
open PySem PySem.Spec PyProof.Rows L2
/-! ### how many pairs stand otherwise -/
section
variable {ps : List (Str × Str)} {row o o2 : List Str}
/-- places, exchanged at one behind the other, that lead from one order to another one -/
inductive Exs (ps : List (Str × Str)) (row : List Str) : List Str → List Nat → List Str → Prop where
  | nil (o : List Str) : Exs ps row o [] o
  | cons {o o' : List Str} {i : Nat} {ts : List Nat} (x y : Str) (hx : o[i]? = some x) (hy : o[i + 1]? = some y) (h : OrdOf ps row (swapL o i x y)) (t : Exs ps row (swapL o i x y) ts o') : Exs ps row o (i :: ts) o'
theorem Exs.at_ {o o' : List Str} {ts : List Nat} (h : Exs ps row o ts o') : ∀ (k : Nat), k ≤ ts.length → ∃ m, Exs ps row o (ts.take k) m ∧ Exs ps row m (ts.drop k) o' := by
  induction h with
  | nil o => exact fun k _ => ⟨o, by rw [List.take_nil]; exact .nil _, by rw [List.drop_nil]; exact .nil _⟩
  | @cons o o' i ts u v hu hv h t ih =>
    intro k hk
    cases k with
    | zero => exact ⟨_, .nil _, .cons u v hu hv h t⟩
    | succ k =>
      obtain ⟨m, m1, m2⟩ := ih k (by simpa using hk)
      exact ⟨m, .cons u v hu hv h m1, m2⟩
theorem Exs.uniq {o a : List Str} {ts : List Nat} (h : Exs ps row o ts a) : ∀ {b : List Str}, Exs ps row o ts b → a = b := by
  induction h with
  | nil o =>
    intro b h
    cases h with
    | nil _ => rfl
  | cons u v hu hv h t ih =>
    intro b k
    cases k with
    | cons x y hx hy h' t' =>
      rw [hu] at hx
      rw [hv] at hy
      cases hx
      cases hy
      exact ih t'
theorem Exs.ord {o a : List Str} {ts : List Nat} (h : Exs ps row o ts a) : OrdOf ps row o → OrdOf ps row a := by
  induction h with
  | nil o => exact id
  | cons u v hu hv h t ih => exact fun _ => ih h
/-! ### what is put back, all together -/
end
/-! ### promises -/
/-! ### a dict made of a list of pairs -/
end Lk
set_option maxRecDepth 100000
set_option maxHeartbeats 4000000
namespace Lk
open PySem PySem.Spec PyProof.Rows L2
/-! ### dict(l), l a list of pairs whose first ones are tuples -/
section
variable {prog : Program} {w : World} {A : Around} {E : Value → Shared → Prop}
end
section
variable {X : Cx}
end
/-! ### friends as a dict of their pairs -/
def MatesAt (H : Hp) (a : Addr) (ps : List (Str × Str)) : Prop := ∃ kvs, H a = some (.dT kvs) ∧ ∀ x y, (valV kvs (k2 x y)).isSome = decide ((x, y) ∈ ps)
def PalX (H : Hp) (a : Addr) (ps : List (Str × Str)) : Prop := PalsAt H a ps ∨ MatesAt H a ps
theorem PalX.same {H H' : Hp} {a : Addr} {ps : List (Str × Str)} (s : Same H H') (h : PalX H a ps) : PalX H' a ps := h.elim (fun e => .inl (e.same s)) fun ⟨kvs, h1, h2⟩ => .inr ⟨kvs, s _ _ h1, h2⟩
theorem PalX.oth {H H' : Hp} {a b : Addr} {ps : List (Str × Str)} (s : Oth b H H') (hb : IsBox H b) (h : PalX H a ps) : PalX H' a ps := h.elim (fun e => .inl (e.oth s hb)) fun ⟨kvs, h1, h2⟩ => .inr ⟨kvs, s _ _ (hb.ne_dT h1) h1, h2⟩
theorem PalX.upd_ {H : Hp} {l a : Addr} {ys : List V} {o' : HO} {ps : List (Str × Str)} (h : PalX H a ps) (hl : H l = some (.lst ys)) : PalX (upd H l o') a ps := h.elim (fun e => .inl (e.upd_ hl)) fun ⟨kvs, h1, h2⟩ => .inr ⟨kvs, (upd_ne (ne_of h1 hl (fun z => nomatch z))).trans h1, h2⟩
end Lk
set_option maxRecDepth 100000
set_option maxHeartbeats 4000000
namespace Lk
open PySem PySem.Spec PyProof.Rows L2
section
variable {X : Cx}
/-! ### a tuple that was just made, as a key of a dict -/
/-! ### tuples put together: which one it is -/
end
/-! ### what shows nothing -/
/-! ### rows as keys -/
end Lk
set_option maxRecDepth 100000
set_option maxHeartbeats 4000000
namespace Lk
open PySem PySem.Spec PyProof.Rows L2
/-! ### how early, how late -/
def spErl : Sp := fun vs H Q _ => ∃ (a r : Addr) (ps : List (Str × Str)) (row : List Str) (who : Str), vs = [.ref a, .ref r, .str who] ∧ FrAt H a ps ∧ ps.length ≤ 1000 ∧ Irr ps ∧ RowAt H r row ∧ row.Nodup ∧ row.length ≤ 100 ∧ goneR ps [] row = [] ∧ who ∈ row ∧
  ∀ H', Same H H' → Q (.int ((ahdL ps row who).length : Nat)) H'
def spLat : Sp := fun vs H Q _ => ∃ (a r : Addr) (ps : List (Str × Str)) (row : List Str) (who : Str), vs = [.ref a, .ref r, .str who] ∧ FrAt H a ps ∧ ps.length ≤ 1000 ∧ Irr ps ∧ RowAt H r row ∧ row.Nodup ∧ row.length ≤ 100 ∧ goneR ps [] row = [] ∧ who ∈ row ∧
  ∀ H', Same H H' → Q (.int ((row.length - 1 - (behL ps row who).length : Nat))) H'
def spEOr : Sp := fun vs H Q _ => ∃ (a r : Addr) (ps : List (Str × Str)) (row : List Str) (who : Str), vs = [.ref a, .ref r, .str who] ∧ FrAt H a ps ∧ ps.length ≤ 1000 ∧ Irr ps ∧ RowAt H r row ∧ row.Nodup ∧ row.length ≤ 100 ∧ goneR ps [] row = [] ∧ who ∈ row ∧
  ∀ p H', Same H H' → H p = none → H' p = some (.lst ((earlyO ps row (goneO ps [] row).reverse who).map V.str)) → Q (.ref p) H'
def spLOr : Sp := fun vs H Q _ => ∃ (a r : Addr) (ps : List (Str × Str)) (row : List Str) (who : Str), vs = [.ref a, .ref r, .str who] ∧ FrAt H a ps ∧ ps.length ≤ 1000 ∧ Irr ps ∧ RowAt H r row ∧ row.Nodup ∧ row.length ≤ 100 ∧ goneR ps [] row = [] ∧ who ∈ row ∧
  ∀ p H', Same H H' → H p = none → H' p = some (.lst ((lateO ps row (goneO ps [] row).reverse who).map V.str)) → Q (.ref p) H'
theorem late_len {ps : List (Str × Str)} {row : List Str} {x : Str} (irr : Irr ps) (hd : row.Nodup) (g0 : goneR ps [] row = []) (hx : x ∈ row) : (behL ps row x).length + 1 ≤ row.length := by
  have := late_idx irr (gone_order irr hd g0) hx
  omega
end Lk
set_option maxRecDepth 100000
set_option maxHeartbeats 4000000
namespace Lk
open PySem PySem.Spec PyProof.Rows L2
section
variable {X : Cx}
/-! ### keys of a dict, that walked before or not -/
def iKeysK (td : TE) : TI := fun σ H R => td σ H fun x H1 => ∃ d kvs, x = .ref d ∧ ((H1 d = some (.dK kvs) ∧ ∀ od, R (Itk d od kvs) (upd H1 d (.frz od (.dK kvs)))) ∨ ∃ od, H1 d = some (.frz od (.dK kvs)) ∧ R (Itk d od kvs) H1)
theorem pi_keysK {tg e : Expr} {td : TE} (he : PE X e td) : PI X tg e (iKeysK td) := by
  refine ⟨fun pins s σ H R I h => ?_⟩
  refine thn (he.run pins s σ H _ I h) fun u s1 ⟨x, H1, I1, rx, d, kvs, ex, q⟩ => ?_
  subst ex
  obtain rfl : u = Value.ref d := rx
  rcases q with ⟨hd, q⟩ | ⟨od, hd, q⟩
  · obtain ⟨od, I2⟩ := I1.lock hd trivial
    obtain ⟨hs, hgd, hx, es, ep, vs, hdt, hsz, kv, hm⟩ := I2.frzK upd_same
    refine iter_keys hs hgd hx hdt (pi_one (tk := s1.toks) I2 _ (turn_keys _ hdt) ⟨_, Heap.get?_push_size _ rfl, rfl, ?_⟩ (q od))
    rw [hsz] <;> rfl
  · obtain ⟨hs, hgd, hx, es, ep, vs, hdt, hsz, kv, hm⟩ := I1.frzK hd
    refine iter_keys hs hgd hx hdt (pi_one (tk := s1.toks) I1 _ (turn_keys _ hdt) ⟨_, Heap.get?_push_size _ rfl, rfl, ?_⟩ q)
    rw [hsz] <;> rfl
end
/-! ### who came behind whom, all of it new -/
def BehN (H0 H : Hp) (D : Addr) (ps : List (Str × Str)) (row xs : List Str) : Prop := ∃ qs : List B4, H D = some (.dK (behK qs)) ∧ qs.map (·.1) = xs ∧ (∀ q ∈ qs, SetD H q.2.1 q.2.2 ∧ q.2.2.Nodup ∧ ∀ y, y ∈ q.2.2 ↔ Leads ps row q.1 y) ∧ ∀ q ∈ qs, H0 q.2.1 = none
def spCameN : Sp := fun vs H Q _ => ∃ (a r : Addr) (ps : List (Str × Str)) (row : List Str), vs = [.ref a, .ref r] ∧ FrAt H a ps ∧ ps.length ≤ 1000 ∧ Irr ps ∧ RowAt H r row ∧ row.Nodup ∧ row.length ≤ 100 ∧ goneR ps [] row = [] ∧
  ∀ D H', Same H H' → H D = none → BehN H H' D ps row (goneO ps [] row) → Q (.ref D) H'
def BehRd (H : Hp) (qs : List B4) : Prop := ∀ q ∈ qs, Rd H q.2.1 (.dK (trueK q.2.2))
theorem BehRd.same {H H' : Hp} {qs : List B4} (s : Same H H') (h : BehRd H qs) : BehRd H' qs := fun q hq => (h q hq).elim (fun e => .inl (s _ _ e)) fun ⟨o, e⟩ => .inr ⟨o, s _ _ e⟩
theorem BehRd.lst {H : Hp} {qs : List B4} {L : Addr} {ys : List V} {o : HO} (hL : H L = some (.lst ys)) (h : BehRd H qs) : BehRd (upd H L o) qs := fun q hq => (h q hq).elim
  (fun e => .inl ((upd_ne (ne_of e hL (fun z => nomatch z))).trans e)) fun ⟨o, e⟩ => .inr ⟨o, (upd_ne (ne_of e hL (fun z => nomatch z))).trans e⟩
theorem BehRd.frz {H : Hp} {qs : List B4} {d : Addr} {kvs : List (Key × V)} {od : Obj} (hd : H d = some (.dK kvs)) (h : BehRd H qs) : BehRd (upd H d (.frz od (.dK kvs))) qs := fun q hq => by
  by_cases c : q.2.1 = d
  · rcases h q hq with e | ⟨o, e⟩
    · rw [c, hd] at e
      rw [c]
      exact .inr ⟨od, by rw [upd_same, Option.some.inj e]⟩
    · rw [c, hd] at e
      cases e
  · exact (h q hq).elim (fun e => .inl ((upd_ne c).trans e)) fun ⟨o, e⟩ => .inr ⟨o, (upd_ne c).trans e⟩
def pairsTo (qs : List B4) (i : Nat) : List (Str × Str) := (qs.take i).flatMap fun q => q.2.2.map fun y => (q.1, y)
theorem pairsTo_succ {qs : List B4} {i : Nat} {q : B4} (h : qs[i]? = some q) : pairsTo qs (i + 1) = pairsTo qs i ++ q.2.2.map fun y => (q.1, y) := by
  unfold pairsTo
  rw [List.take_add_one, h, List.flatMap_append]
  show _ ++ List.flatMap _ [q] = _
  rw [List.flatMap_cons, List.flatMap_nil, List.append_nil]
def spAhead : Sp := fun vs H Q _ => ∃ (a r : Addr) (ps : List (Str × Str)) (row : List Str), vs = [.ref a, .ref r] ∧ FrAt H a ps ∧ ps.length ≤ 1000 ∧ Irr ps ∧ RowAt H r row ∧ row.Nodup ∧ row.length ≤ 30 ∧ goneR ps [] row = [] ∧
  ∀ p (bs : List B3) H', Same H H' → H p = none → H' p = some (.lst (refs bs)) → PairsAt H' bs → (∀ x y, (x, y) ∈ bs.map (·.2) ↔ Leads ps row x y) → bs.length ≤ 900 → Q (.ref p) H'
def spNextT : Sp := fun vs H Q _ => ∃ (Ba Be : Addr) (ps : List (Str × Str)) (row xs : List Str) (who other : Str), vs = [.ref Ba, .ref Be, .str who, .str other] ∧ BarAt H Ba ps row row.length ∧ BehAt H Be ps row xs ∧ xs.Perm row ∧ row.Nodup ∧ row.length ≤ 100 ∧ Leads ps row who other ∧
  ∀ later H', Same H H' → later ∈ row → Bars ps row who later → (later = other ∨ Leads ps row later other) → Q (.str later) H'
/-! ### a chain of who bars the next -/
theorem nexts_get {bs : List B3} {l : Str} {i : Nat} (h : i < bs.length) : (nextsL bs l)[i]? = (bs.map (·.2.1) ++ [l])[i + 1]? := by
  unfold nextsL
  cases bs with
  | nil => cases h
  | cons b r => rfl
def ChainTo (ps : List (Str × Str)) (row : List Str) (one who : Str) (bs : List B3) : Prop :=
  (bs.map (·.2.1) ++ [who])[0]? = some one ∧ (∀ b ∈ bs, b.2.1 ∈ row) ∧ (bs.map (·.2.1)).Nodup ∧ ∀ (i : Nat) (c : B3) (y : Str), bs[i]? = some c → (nextsL bs who)[i]? = some y → c.2.2 ∈ wordsAt ps row c.2.1 y
theorem ChainTo.nil {ps : List (Str × Str)} {row : List Str} {one : Str} : ChainTo ps row one one [] := ⟨rfl, (fun _ h => nomatch h), List.nodup_nil, fun i c y h => by rw [List.getElem?_nil] at h; cases h⟩
theorem ChainTo.step {ps : List (Str × Str)} {row : List Str} {one who later w : Str} {bs : List B3} {t : Addr} (h : ChainTo ps row one who bs) (hw : who ∈ row) (nw : who ∉ bs.map (·.2.1)) (hb : w ∈ wordsAt ps row who later) : ChainTo ps row one later (bs ++ [(t, who, w)]) := by
  obtain ⟨h1, h2, h3, h4⟩ := h
  refine ⟨?_, fun b hb' => ?_, ?_, fun i c y hc hy => ?_⟩
  · rw [List.map_append]
    cases bs with
    | nil => exact h1
    | cons b r => exact h1
  · rcases List.mem_append.mp hb' with z | z
    · exact h2 b z
    · rw [List.mem_singleton.mp z]
      exact hw
  · rw [List.map_append]
    exact ((List.perm_append_singleton who (bs.map (·.2.1))).nodup_iff).mpr (List.nodup_cons.mpr ⟨nw, h3⟩)
  · have hi : i < (bs ++ [(t, who, w)]).length := (List.getElem?_eq_some_iff.mp hc).1
    rw [nexts_get hi] at hy
    rw [List.length_append] at hi
    have hi : i < bs.length + 1 := hi
    by_cases c1 : i < bs.length
    · rw [List.getElem?_append_left c1] at hc
      refine h4 i c y hc ?_
      rw [nexts_get c1, ← hy, List.map_append]
      have e : ((bs.map (·.2.1) ++ [who]) ++ [later])[i + 1]? = (bs.map (·.2.1) ++ [who])[i + 1]? := List.getElem?_append_left (by rw [List.length_append, List.length_map]; show i + 1 < bs.length + 1; omega)
      exact e.symm
    · have ei : i = bs.length := by omega
      subst ei
      rw [List.getElem?_append_right (Nat.le_refl _), Nat.sub_self] at hc
      cases hc
      rw [List.map_append, List.append_assoc, List.getElem?_append_right (by rw [List.length_map]; omega), List.length_map, show bs.length + 1 - bs.length = 1 by omega] at hy
      cases hy
      exact hb
def spChain : Sp := fun vs H Q _ => ∃ (a r : Addr) (ps : List (Str × Str)) (row : List Str) (one other : Str), vs = [.ref a, .ref r, .str one, .str other] ∧ FrAt H a ps ∧ ps.length ≤ 1000 ∧ Irr ps ∧ RowAt H r row ∧ row.Nodup ∧ row.length ≤ 100 ∧ goneR ps [] row = [] ∧ one ∈ row ∧ other ∈ row ∧
  (¬ Leads ps row one other → ∀ H', Same H H' → Q .non H') ∧ (Leads ps row one other → ∀ p (bs : List B3) H', Same H H' → H p = none → H' p = some (.lst (refs bs)) → PairsAt H' bs → bs ≠ [] → bs.length ≤ 100 → ChainTo ps row one other bs → other ∉ bs.map (·.2.1) → Q (.ref p) H')
/-! ### what the law has beside it -/
def wK (E L B Pr : Addr) : List (Key × V) := [((.inr "early" : Key), .ref E), (.inr "late", .ref L), (.inr "bounds", .ref B), (.inr "pairs", .ref Pr)]
def OrdsAt (H : Hp) (D : Addr) (f : Str → List Str) (row : List Str) (n : Nat) : Prop := ∃ kvs, H D = some (.dK kvs) ∧ kvs.length ≤ n ∧ ∀ x ∈ row.take n, ∃ la, valV kvs (.inr x) = some (.ref la) ∧ H la = some (.lst ((f x).map V.str))
theorem OrdsAt.same {H H' : Hp} {D : Addr} {f : Str → List Str} {row : List Str} {n : Nat} (s : Same H H') (h : OrdsAt H D f row n) : OrdsAt H' D f row n := by
  obtain ⟨kvs, h1, h2, h3⟩ := h
  refine ⟨kvs, s _ _ h1, h2, fun x hx => ?_⟩
  obtain ⟨la, e1, e2⟩ := h3 x hx
  exact ⟨la, e1, s _ _ e2⟩
/-- another dict is written -/
theorem OrdsAt.oth {H : Hp} {D d : Addr} {f : Str → List Str} {row : List Str} {n : Nat} {kvs : List (Key × V)} {o : HO} (ne : D ≠ d) (hd : H d = some (.dK kvs)) (h : OrdsAt H D f row n) : OrdsAt (upd H d o) D f row n := by
  obtain ⟨kvs', h1, h2, h3⟩ := h
  refine ⟨kvs', (upd_ne ne).trans h1, h2, fun x hx => ?_⟩
  obtain ⟨la, e1, e2⟩ := h3 x hx
  exact ⟨la, e1, (upd_ne (ne_of e2 hd (fun z => nomatch z))).trans e2⟩
theorem OrdsAt.put {H : Hp} {D la : Addr} {f : Str → List Str} {row : List Str} {i : Nat} {x : Str} (hd : row.Nodup) (hx : row[i]? = some x) (h : OrdsAt H D f row i) (hl : H la = some (.lst ((f x).map V.str))) :
    ∃ kvs, H D = some (.dK kvs) ∧ kvs.length ≤ i ∧ OrdsAt (upd H D (.dK (putK kvs (.inr x) (.ref la)))) D f row (i + 1) := by
  obtain ⟨kvs, h1, h2, h3⟩ := h
  refine ⟨kvs, h1, h2, putK kvs (.inr x) (.ref la), upd_same, ?_, fun y hy => ?_⟩
  · have := putK_lenK (kvs := kvs) (k := .inr x) (v := V.ref la)
    omega
  · rw [valV_put]
    rw [List.take_add_one, hx] at hy
    by_cases c : y = x
    · subst c
      rw [if_pos rfl]
      exact ⟨la, rfl, (upd_ne (ne_of hl h1 (fun z => nomatch z))).trans hl⟩
    · rw [if_neg (fun z => c (Sum.inr.inj z))]
      rcases List.mem_append.mp hy with z | z
      · obtain ⟨lb, e1, e2⟩ := h3 y z
        exact ⟨lb, e1, (upd_ne (ne_of e2 h1 (fun z => nomatch z))).trans e2⟩
      · exact absurd (List.mem_singleton.mp z) c
def BndAt (H : Hp) (D : Addr) (ps : List (Str × Str)) (row : List Str) (n : Nat) : Prop := ∃ kvs, H D = some (.dK kvs) ∧ kvs.length ≤ n ∧ ∀ (i : Nat) (x : Str), i < n → row[i]? = some x → ∃ t, valV kvs (.inr x) = some (.ref t) ∧ H t = some (.tup [.int (leastN ps row x i : Nat), .int (mostN ps row x i : Nat)])
theorem BndAt.same {H H' : Hp} {D : Addr} {ps : List (Str × Str)} {row : List Str} {n : Nat} (s : Same H H') (h : BndAt H D ps row n) : BndAt H' D ps row n := by
  obtain ⟨kvs, h1, h2, h3⟩ := h
  refine ⟨kvs, s _ _ h1, h2, fun i x hi hx => ?_⟩
  obtain ⟨la, e1, e2⟩ := h3 i x hi hx
  exact ⟨la, e1, s _ _ e2⟩
theorem BndAt.oth {H : Hp} {D d : Addr} {ps : List (Str × Str)} {row : List Str} {n : Nat} {kvs : List (Key × V)} {o : HO} (ne : D ≠ d) (hd : H d = some (.dK kvs)) (h : BndAt H D ps row n) : BndAt (upd H d o) D ps row n := by
  obtain ⟨kvs', h1, h2, h3⟩ := h
  refine ⟨kvs', (upd_ne ne).trans h1, h2, fun i x hi hx => ?_⟩
  obtain ⟨la, e1, e2⟩ := h3 i x hi hx
  exact ⟨la, e1, (upd_ne (ne_of e2 hd (fun z => nomatch z))).trans e2⟩
theorem BndAt.put {H : Hp} {D t : Addr} {ps : List (Str × Str)} {row : List Str} {i : Nat} {x : Str} (hd : row.Nodup) (hx : row[i]? = some x) (h : BndAt H D ps row i) (hl : H t = some (.tup [.int (leastN ps row x i : Nat), .int (mostN ps row x i : Nat)])) :
    ∃ kvs, H D = some (.dK kvs) ∧ kvs.length ≤ i ∧ BndAt (upd H D (.dK (putK kvs (.inr x) (.ref t)))) D ps row (i + 1) := by
  obtain ⟨kvs, h1, h2, h3⟩ := h
  refine ⟨kvs, h1, h2, putK kvs (.inr x) (.ref t), upd_same, ?_, fun j y hj hy => ?_⟩
  · have := putK_lenK (kvs := kvs) (k := .inr x) (v := V.ref t)
    omega
  · rw [valV_put]
    by_cases c : y = x
    · subst c
      have := nd_ix hd hx hy
      subst this
      rw [if_pos rfl]
      exact ⟨t, rfl, (upd_ne (ne_of hl h1 (fun z => nomatch z))).trans hl⟩
    · rw [if_neg (fun z => c (Sum.inr.inj z))]
      have : j ≠ i := fun z => by
        subst z
        rw [hx] at hy
        exact c (Option.some.inj hy).symm
      obtain ⟨lb, e1, e2⟩ := h3 j y (by omega) hy
      exact ⟨lb, e1, (upd_ne (ne_of e2 h1 (fun z => nomatch z))).trans e2⟩
def PrAt (H : Hp) (D : Addr) (ps : List (Str × Str)) (row : List Str) : Prop := ∃ kvs, H D = some (.dT kvs) ∧ ∀ x y, (valV kvs (k2 x y)).isSome = leadsB ps row x y
theorem PrAt.same {H H' : Hp} {D : Addr} {ps : List (Str × Str)} {row : List Str} (s : Same H H') (h : PrAt H D ps row) : PrAt H' D ps row := by
  obtain ⟨kvs, h1, h2⟩ := h
  exact ⟨kvs, s _ _ h1, h2⟩
/-- all that the law has beside it, so far -/
def WSt (H1 H' : Hp) (wd E L Bn Pr : Addr) (ps : List (Str × Str)) (row ord : List Str) (nO nB : Nat) : Prop :=
  Same H1 H' ∧ H' wd = some (.dK (wK E L Bn Pr)) ∧ OrdsAt H' E (earlyO ps row ord) row nO ∧ OrdsAt H' L (lateO ps row ord) row nO ∧ BndAt H' Bn ps row nB ∧ PrAt H' Pr ps row
theorem WSt.same {H1 H' H'' : Hp} {wd E L Bn Pr : Addr} {ps : List (Str × Str)} {row ord : List Str} {nO nB : Nat} (s : Same H' H'') (h : WSt H1 H' wd E L Bn Pr ps row ord nO nB) : WSt H1 H'' wd E L Bn Pr ps row ord nO nB :=
  ⟨h.1.trans s, s _ _ h.2.1, h.2.2.1.same s, h.2.2.2.1.same s, h.2.2.2.2.1.same s, h.2.2.2.2.2.same s⟩
theorem PrAt.oth {H : Hp} {D d : Addr} {ps : List (Str × Str)} {row : List Str} {o : HO} (ne : D ≠ d) (h : PrAt H D ps row) : PrAt (upd H d o) D ps row := by
  obtain ⟨kvs', h1, h2⟩ := h
  exact ⟨kvs', (upd_ne ne).trans h1, h2⟩
theorem OrdsAt.box {H H' : Hp} {b D : Addr} {f : Str → List Str} {row : List Str} {n : Nat} (s : Oth b H H') (hb : IsBox H b) (h : OrdsAt H D f row n) : OrdsAt H' D f row n := by
  obtain ⟨kvs, h1, h2, h3⟩ := h
  obtain ⟨x, y, z, e⟩ := hb
  refine ⟨kvs, s _ _ (ne_of h1 e (fun z => nomatch z)) h1, h2, fun w hw => ?_⟩
  obtain ⟨la, e1, e2⟩ := h3 w hw
  exact ⟨la, e1, s _ _ (IsBox.ne_strs ⟨x, y, z, e⟩ e2) e2⟩
theorem PrAt.box {H H' : Hp} {b D : Addr} {ps : List (Str × Str)} {row : List Str} (s : Oth b H H') (hb : IsBox H b) (h : PrAt H D ps row) : PrAt H' D ps row := by
  obtain ⟨kvs, h1, h2⟩ := h
  exact ⟨kvs, s _ _ (hb.ne_dT h1) h1, h2⟩
end Lk
set_option maxRecDepth 100000
set_option maxHeartbeats 4000000
namespace Lk
open PySem PySem.Spec PyProof.Rows L2
/-! ### one clause of a comprehension, by what one turn of it does -/
/-- what σ0 knows, σ knows too -/
def Kn (σ0 σ : L2.St) : Prop := σ0.length = σ.length ∧ ∀ (j : Nat) (v : V), σ0[j]? = some (some v) → σ[j]? = some (some v)
theorem kn_wipe {σ σ2 : L2.St} {vs : List Nat} (h : wipe σ2 vs = wipe σ vs) : Kn (wipe σ vs) σ2 := ⟨by rw [← h, wipe_length], fun j v e => by rw [← h] at e; exact (wipe_some e).1⟩
theorem kn_wipe2 {σ0 σ2 : L2.St} {vs : List Nat} (k : Kn σ0 σ2) (off : ∀ (j : Nat) (v : V), σ0[j]? = some (some v) → j ∉ vs) : Kn σ0 (wipe σ2 vs) := ⟨by rw [wipe_length]; exact k.1, fun j v e => by rw [wipe_out (off j v e)]; exact k.2 j v e⟩
theorem no_err {α : Type} {t : Sem α} {Q Q' : α → Shared → Prop} {M : Model} {A : Around} {E E' : Value → Shared → Prop} {s : Shared} (h : wpAny M A t Q E s) (he : ∀ x s, ¬ E x s) (hQ : ∀ a s, Q a s → Q' a s) : wpAny M A t Q' E' s := wpAny_mono h hQ fun x s z => (he x s z).elim
/-- the text of a turn: a store, tests, then C -/
def ClauseIs (e : Expr) (d : Nat) (it acc : Value) (env : Env) (p : Pos) (t : Expr) (ifs : List Expr) (C : Sem Fin) : Prop :=
  compTurn e d it acc env = (do
    standAt p
    match ← pyNext it with
    | none => pure (.done .next)
    | some v =>
      letOwnedTupleGo t it v
      assign t env v
      let mut ok := true
      for c in ifs do
        if ok then ok ← isTrue c env (eval c env)
      if ok then C else again (.compLoop e d it acc env))
theorem clause_loop {Y : Cx} {kx vx : Expr} {gens : List Comprehension} {scope : Scope} {pos : Pos} {d : Nat} {acc : Value} {p : Pos} {t : Expr} {ifs : List Expr} {C : Sem Fin} {R : Result → Shared → Prop} {pins : List (Addr × Obj)} {fp : List Addr} {it : Addr} {J : It} {tn : Nat → Heap → Prop} {g : TG} {tt : TT} {σ0 : L2.St}
    {W : Nat → Nat → Hp → Prop} {Bt : L2.St → Hp → (Hp → Prop) → Prop} {Kp : L2.St → Prop} {s : Shared} {H : Hp} {m : Nat}
    (hc : Y.calm = true) (hx : ∀ x s, ¬ Y.xe x s) (hK : ∀ σ2, Kp σ2 → Kn σ0 σ2) (hm : ClauseIs (.DictComp kx vx gens scope pos) d (.ref it) acc Y.env p t ifs C) (pg : PG Y t g) (pt : PTs Y ifs tt) (T : Turn Y.prog Y.w Y.K t J fp it tn)
    (stat : ∀ {σ' : L2.St} {H' : Hp} {s' : Shared}, Inv Y pins σ' H' s' → (∀ b ∈ fp, H' b = none) → ∀ b ∈ fp, FpOk Y pins H' b)
    (turn : ∀ i m H, W i m H → (J.stop i H ∧ ∀ s, Inv Y pins σ0 H s → R (.ok .next) s) ∨ (J.go i H ∧ ∃ Nx : Hp → Prop, (∀ H', Nx H' → ∃ m', m' < m ∧ W (i + 1) m' H') ∧ ∀ x H', J.yld i H x H' → g x σ0 H' fun σ2 H2 => Kp σ2 ∧ tt σ2 H2 fun b H3 => if b = true then Bt σ2 H3 Nx else Nx H3))
    (body : ∀ (more : List (Addr × Obj)) (σ2 : L2.St) (H3 : Hp) (s : Shared) (Nx : Hp → Prop), Kp σ2 → Inv Y (pins ++ more) σ2 H3 s → Bt σ2 H3 Nx → wpAny (model Y.prog Y.w) Y.A C (fun fin s' => fin = .again (.compLoop (.DictComp kx vx gens scope pos) d (.ref it) acc Y.env) ∧ ∃ σ' H', Kn σ0 σ' ∧ Inv Y (pins ++ more) σ' H' s' ∧ Nx H') (fun _ _ => False) s)
    (I : Inv Y pins σ0 H s) (st : tn 0 s.heap) (hn : ∀ b ∈ fp, H b = none) (w0 : W 0 m H) : codeAny (model Y.prog Y.w) Y.A (.compLoop (.DictComp kx vx gens scope pos) d (.ref it) acc Y.env) R s := by
  refine codeAny_loop rfl (fun n s => ∃ i H', Inv Y pins σ0 H' s ∧ tn i s.heap ∧ (∀ b ∈ fp, H' b = none) ∧ W i n H') (fun n s h => ?_) m ⟨0, H, I, st, hn, w0⟩
  obtain ⟨i, H1, I1, st1, n1, w1⟩ := h
  show wpAny _ Y.A ((compTurn (.DictComp kx vx gens scope pos) d (.ref it) acc Y.env).onRaise fun x => do noteFrame x Y.env; theTreesLotGoes x) _ _ s
  refine wpAny_noted ?_
  rw [show compTurn (.DictComp kx vx gens scope pos) d (.ref it) acc Y.env = _ from hm]
  refine wpAny_bind (wpAny_standAt (wpAny_bind ?_))
  rcases turn i n H1 w1 with ⟨stop, fin⟩ | ⟨go, Nx, hNx, step⟩
  · refine thnF (T.done Y rfl rfl rfl hc i pins s σ0 H1 _ I1 (stat I1 n1) st1 stop) fun r s2 ⟨hr, I2⟩ => ?_
    subst hr
    exact wpAny_pure (fin s2 I2)
  refine thnF (T.item Y rfl rfl rfl hc i pins s σ0 H1 _ I1 (stat I1 n1) st1 go) fun r s2 ⟨u, hr, h2⟩ => ?_
  subst hr
  refine wpAny_bind (thnF h2 fun _ s3 ⟨x, H3, I3, rx, yx, st3, n3⟩ => ?_)
  have next : ∀ {σ' : L2.St} {H' : Hp} {s' : Shared}, Kn σ0 σ' → Inv Y (pins ++ pinsAt fp s3.heap) σ' H' s' → Nx H' → ∃ m', m' < n ∧ ∃ i H', Inv Y pins σ0 H' s' ∧ tn i s'.heap ∧ (∀ b ∈ fp, H' b = none) ∧ W i m' H' := fun {σ' H' s'} k J' nx => by
    obtain ⟨m', lt, w'⟩ := hNx H' nx
    have held : ∀ b ∈ fp, ∀ o, s3.heap.get? b = some o → s'.heap.get? b = some o ∧ H' b = none := fun b hb o eo => by
      have z := J'.pin (b, o) (List.mem_append_right _ (List.mem_append_right _ (mem_pinsAt hb eo)))
      exact ⟨z.1, z.2.1⟩
    refine ⟨m', lt, i + 1, H', (J'.unpinned (pins := pins)).weak k.1 k.2, T.keep _ _ _ st3 fun b hb o eo => (held b hb o eo).1, fun b hb => ?_, w'⟩
    obtain ⟨o, eo, _⟩ := T.obj _ _ st3 b hb
    exact (held b hb o eo).2
  refine wpAny_bind (no_err (pg.run _ s3 σ0 H3 x u _ (I3.pinned (stat I3 n3) (T.obj _ _ st3)) rx (step x H3 yx)) hx fun _ s4 ⟨σ4, H4, I4, k4, q4⟩ => ?_)
  refine wpAny_bind (no_err (pt.run _ s4 σ4 H4 _ I4 q4) hx fun b s5 ⟨H5, I5, q5⟩ => ?_)
  cases b with
  | false => exact wpAny_pure ⟨rfl, next (hK _ k4) I5 (by simpa using q5)⟩
  | true =>
    refine thnF (body _ σ4 H5 s5 Nx k4 I5 (by simpa using q5)) fun fin s6 q6 => ?_
    obtain ⟨ef, σ6, H6, k6, I6, nx⟩ := q6
    subst ef
    exact ⟨rfl, next k6 I6 nx⟩
/-! ### {k: v for .. in .. for .. in ..} -/
section
variable {kx vx t0 i0 t1 i1 : Expr} {f0 f1 : List Expr} {scope : Scope} {pos : Pos}
theorem clause_out (it : Value) (D : Addr) (env : Env) : ClauseIs (.DictComp kx vx [⟨t0, i0, f0, 0⟩, ⟨t1, i1, f1, 0⟩] scope pos) 0 it (.ref D) env i0.pos t0 f0 (do
    let x ← eval i1 env
    standAt i1.pos
    let x ← foldedSetIterable i1 env x
    let _ ← runOwn (.compStart (.DictComp kx vx [⟨t0, i0, f0, 0⟩, ⟨t1, i1, f1, 0⟩] scope pos) 1 (← holding [x] (pyIter x)) (.ref D) env) env
    again (.compLoop (.DictComp kx vx [⟨t0, i0, f0, 0⟩, ⟨t1, i1, f1, 0⟩] scope pos) 0 it (.ref D) env)) := by
  unfold ClauseIs
  rfl
theorem clause_in (it : Value) (D : Addr) (env : Env) : ClauseIs (.DictComp kx vx [⟨t0, i0, f0, 0⟩, ⟨t1, i1, f1, 0⟩] scope pos) 1 it (.ref D) env i1.pos t1 f1 (do
    (do
      let kv ← eval kx env
      let vv ← holding [kv] (eval vx env)
      standAt { kx.pos with endLine := vx.pos.endLine, endCol := vx.pos.endCol }
      holding [kv, vv] (dictSet D kv vv))
    again (.compLoop (.DictComp kx vx [⟨t0, i0, f0, 0⟩, ⟨t1, i1, f1, 0⟩] scope pos) 1 it (.ref D) env)) := by
  unfold ClauseIs
  rfl
theorem start_in {P : Program} {w : World} {A : Around} {R : Result → Shared → Prop} {s : Shared} {it acc : Value} {env : Env}
    (loop : codeAny (model P w) A (.compLoop (.DictComp kx vx [⟨t0, i0, f0, 0⟩, ⟨t1, i1, f1, 0⟩] scope pos) 1 it acc env) R s)
    (twice : wpAny (model P w) A (pyIter it) (fun j s' => codeAny (model P w) A (.compLoop (.DictComp kx vx [⟨t0, i0, f0, 0⟩, ⟨t1, i1, f1, 0⟩] scope pos) 1 j acc env) R s') (fun _ _ => False) s) :
    codeAny (model P w) A (.compStart (.DictComp kx vx [⟨t0, i0, f0, 0⟩, ⟨t1, i1, f1, 0⟩] scope pos) 1 it acc env) R s := by
  refine codeAny_of_tree ?_
  show wpAny (model P w) A ((compStart (.DictComp kx vx [⟨t0, i0, f0, 0⟩, ⟨t1, i1, f1, 0⟩] scope pos) 1 it acc env).onRaise fun x => do noteFrame x env; standAt theWindowsPlace) _ _ s
  refine wpAny_notedAt ?_
  unfold compStart
  show wpAny (model P w) A (ask >>= _) _ _ s
  refine wpAny_bind (wpAny_askSetting (wpAny_ite ?_))
  split
  · first
      | exact wpAny_pure ⟨rfl, loop⟩
      | exact wpAny_bind (wpAny_pure (wpAny_pure ⟨rfl, loop⟩))
  · refine wpAny_bind (wpAny_rule ?_)
    first
      | exact wpAny_bind (wpAny_standAt (wpAny_bind (thnF twice fun j s' h => wpAny_pure ⟨rfl, h⟩)))
      | (show wpAny _ _ (standAt i1.pos >>= _) _ _ s; exact wpAny_bind (wpAny_standAt (wpAny_bind (thnF twice fun j s' h => wpAny_pure ⟨rfl, h⟩))))
end
section
variable {X : Cx}
def tDc2 (wi : TI) (g : TG) (tt : TT) (wi1 : TI) (g1 : TG) (tt1 : TT) (tk tv : TE) (vs vs1 : List Nat) : TE := fun σ H Q => wi σ H fun J H1 => ∀ D, H1 D = none → ∃ W : Nat → Nat → Hp → Prop, (∃ m, W 0 m (upd H1 D (.dK []))) ∧ ∀ i m H, W i m H →
  (J.stop i H ∧ Q (.ref D) H) ∨ (J.go i H ∧ ∃ Nx : Hp → Prop, (∀ H', Nx H' → ∃ m', m' < m ∧ W (i + 1) m' H') ∧ ∀ x H', J.yld i H x H' → g x (wipe σ vs) H' fun σ2 H2 => wipe σ2 vs = wipe σ vs ∧ tt σ2 H2 fun b H3 =>
    if b = true then wi1 σ2 H3 fun J1 H4 => ∃ W1 : Nat → Nat → Hp → Prop, (∃ m, W1 0 m H4) ∧ ∀ j k H, W1 j k H →
      (J1.stop j H ∧ Nx H) ∨ (J1.go j H ∧ ∃ Nx1 : Hp → Prop, (∀ H', Nx1 H' → ∃ k', k' < k ∧ W1 (j + 1) k' H') ∧ ∀ x H', J1.yld j H x H' → g1 x (wipe σ2 vs1) H' fun σ3 H5 => wipe σ3 vs1 = wipe σ2 vs1 ∧ tt1 σ3 H5 fun b H6 =>
        if b = true then tk σ3 H6 fun y H7 => tv σ3 H7 fun z H8 => ∃ kvs k, y = kV k ∧ H8 D = some (.dK kvs) ∧ kvs.length < sizeLine ∧ Nx1 (upd H8 D (.dK (putK kvs k z))) else Nx1 H6)
    else Nx H3)
abbrev PIb (X : Cx) (scope : Scope) (t i : Expr) (w : TI) : Prop := ∀ (s : Shared) (H : Hp) (C : Addr) (cl : List (Str × Addr)) (fp : List Addr), PI (X.blk s H scope (compEnvC scope cl C X.env) fp) t i w
abbrev PGb (X : Cx) (scope : Scope) (t : Expr) (g : TG) : Prop := ∀ (s : Shared) (H : Hp) (C : Addr) (cl : List (Str × Addr)) (fp : List Addr), PG (X.blk s H scope (compEnvC scope cl C X.env) fp) t g
abbrev PTb (X : Cx) (scope : Scope) (f : List Expr) (t : TT) : Prop := ∀ (s : Shared) (H : Hp) (C : Addr) (cl : List (Str × Addr)) (fp : List Addr), PTs (X.blk s H scope (compEnvC scope cl C X.env) fp) f t
abbrev PEb (X : Cx) (scope : Scope) (e : Expr) (t : TE) : Prop := ∀ (s : Shared) (H : Hp) (C : Addr) (cl : List (Str × Addr)) (fp : List Addr), PE (X.blk s H scope (compEnvC scope cl C X.env) fp) e t
theorem dc2_core {pins : List (Addr × Obj)} {s : Shared} {σ : L2.St} {H : Hp} {Q : VK} {kx vx t0 i0 t1 i1 : Expr} {f0 f1 : List Expr} {scope : Scope} {own : List (Str × Nat)} {vs1 : List Nat} {pos pos' : Pos} {wi wi1 : TI} {g g1 : TG} {tt tt1 : TT} {tk tv : TE} {use : Option (Value → Sem Unit)} {Qf : Value → Shared → Prop}
    (hc : X.calm = true) (hN : X.N.Nodup) (I : Inv X pins σ H s) (hi : PI X t0 i0 wi) (ok : BlkOk X.N X.env.scope scope own) (hv : ∀ i ∈ vs1, i ∈ own.map (·.2))
    (hg : PGb X scope t0 g) (ht : PTb X scope f0 tt) (hi1 : PIb X scope t1 i1 wi1) (hg1 : PGb X scope t1 g1) (ht1 : PTb X scope f1 tt1) (hk : PEb X scope kx tk) (he : PEb X scope vx tv)
    (hs : ∀ x, foldedSetIterable i0 X.env x = pure x) (hs1 : ∀ env x, foldedSetIterable i1 env x = pure x) (h : tDc2 wi g tt wi1 g1 tt1 tk tv (own.map (·.2)) vs1 σ H Q)
    (out : ∀ D C s' m H', Inv X pins σ H' s' → Q (.ref D) H' → s'.heap.Ns C m → FpOk X pins H' C → compPost (model X.prog X.w) X.A X.xe use Qf (.ref D) C (.ok .next) s') :
    wpAny (model X.prog X.w) X.A (comprehension (.DictComp kx vx [⟨t0, i0, f0, 0⟩, ⟨t1, i1, f1, 0⟩] scope pos) scope X.env pos' newDict false (eval i0 X.env) use) Qf X.xe s := by
  have free : ∀ y ∈ scope.names, y.2 = .free → ∃ c, X.env.cells.lookup y.1 = some c := fun y hy e => (ok.free y hy e).elim (fun k => I.ok.has _ (.inl k)) fun k => I.ok.has _ (.inr k)
  refine wpAny_comprehension_free (use := use) rfl hs (closure_ok free) ok.kind (fun y hy e => by rw [ok.uniq y hy, e]) (thn (hi.run pins s σ H _ I h) fun xv sA came => thn came fun itv sB came => ?_)
  obtain ⟨it, fp, tn, J, H2, rfl, I2, T, stB, fB, q⟩ := came
  refine wpAny_newObj_type (newEnv_comp ?_)
  have newD : H2 sB.heap.objs.size = none := I2.hok.fresh (Nat.le_refl _)
  obtain ⟨W, ⟨m0, w0⟩, turn⟩ := q _ newD
  have IC : Inv X pins σ (upd H2 sB.heap.objs.size (.dK [])) { sB with heap := sB.heap.push { cls := .type "dict", data := .dict #[] } } := I2.laid (t' := sB.toks) (fun b o e => Heap.get?_push_of_some _ e) (Nat.le_refl _) (dk_empty sB.heap I2.big)
  have lt : ∀ b ∈ fp, b < sB.heap.objs.size := fun b hb => let ⟨o, e, _⟩ := T.obj _ _ stB b hb; Heap.lt_size e
  have hpC0 : ({ sB with heap := sB.heap.push { cls := .type "dict", data := .dict #[] } } : Shared).heap = sB.heap.push { cls := .type "dict", data := .dict #[] } := rfl
  generalize ({ sB with heap := sB.heap.push { cls := .type "dict", data := .dict #[] } } : Shared) = sC at IC hpC0 ⊢
  have hpC := hpC0
  have stC : tn 0 sC.heap := T.keep _ _ _ stB fun b _ o e => by rw [hpC]; exact Heap.get?_push_of_some _ e
  have fC : ∀ b ∈ fp, FpOk X pins (upd H2 sB.heap.objs.size (.dK [])) b ∧ b < sC.heap.objs.size := fun b hb => by
    refine ⟨⟨?_, (fB b hb).2⟩, by rw [hpC, Heap.size_push]; exact Nat.lt_succ_of_lt (lt b hb)⟩
    rw [upd_ne (Nat.ne_of_lt (lt b hb))]
    exact (fB b hb).1
  show codeAny (model X.prog X.w) X.A (.compStart (.DictComp kx vx [⟨t0, i0, f0, 0⟩, ⟨t1, i1, f1, 0⟩] scope pos) 0 (.ref it) (.ref sB.heap.objs.size) (compEnvC scope (cellsFrom (sC.heap.objs.size + 1) scope.names (cloFrom X.env.cells scope.names [])) sC.heap.objs.size X.env)) (compPost (model X.prog X.w) X.A X.xe use Qf (.ref sB.heap.objs.size) sC.heap.objs.size) { sC with heap := pushCells (sC.heap.push { cls := .type "dict", data := .dict #[] }) scope.names }
  generalize sB.heap.objs.size = D at *
  generalize hH : upd H2 D (.dK []) = H3 at *
  have I4 := block_start IC ok hN fC
  have stE : tn 0 ({ sC with heap := pushCells (sC.heap.push { cls := .type "dict", data := .dict #[] }) scope.names } : Shared).heap := T.keep _ _ _ stC fun b _ o e => pushCells_keeps _ _ _ _ (Heap.get?_push_of_some _ e)
  generalize ({ sC with heap := pushCells (sC.heap.push { cls := .type "dict", data := .dict #[] }) scope.names } : Shared) = sE at I4 stE ⊢
  have pg := hg sC H3 sC.heap.objs.size (cellsFrom (sC.heap.objs.size + 1) scope.names (cloFrom X.env.cells scope.names [])) fp
  have pt := ht sC H3 sC.heap.objs.size (cellsFrom (sC.heap.objs.size + 1) scope.names (cloFrom X.env.cells scope.names [])) fp
  have pi1 := hi1 sC H3 sC.heap.objs.size (cellsFrom (sC.heap.objs.size + 1) scope.names (cloFrom X.env.cells scope.names [])) fp
  have pg1 := hg1 sC H3 sC.heap.objs.size (cellsFrom (sC.heap.objs.size + 1) scope.names (cloFrom X.env.cells scope.names [])) fp
  have pt1 := ht1 sC H3 sC.heap.objs.size (cellsFrom (sC.heap.objs.size + 1) scope.names (cloFrom X.env.cells scope.names [])) fp
  have pk := hk sC H3 sC.heap.objs.size (cellsFrom (sC.heap.objs.size + 1) scope.names (cloFrom X.env.cells scope.names [])) fp
  have pv_ := he sC H3 sC.heap.objs.size (cellsFrom (sC.heap.objs.size + 1) scope.names (cloFrom X.env.cells scope.names [])) fp
  have cL : (compEnvC scope (cellsFrom (sC.heap.objs.size + 1) scope.names (cloFrom X.env.cells scope.names [])) sC.heap.objs.size X.env).locals = sC.heap.objs.size := rfl
  generalize compEnvC scope (cellsFrom (sC.heap.objs.size + 1) scope.names (cloFrom X.env.cells scope.names [])) sC.heap.objs.size X.env = ce at *
  have loop : codeAny (model X.prog X.w) X.A (.compLoop (.DictComp kx vx [⟨t0, i0, f0, 0⟩, ⟨t1, i1, f1, 0⟩] scope pos) 0 (.ref it) (.ref D) ce) (compPost (model X.prog X.w) X.A X.xe use Qf (.ref D) sC.heap.objs.size) sE := by
    refine clause_loop (Y := X.blk sC H3 scope ce fp) (σ0 := wipe σ (own.map (·.2))) (W := W) (J := J) (fp := fp) (tn := tn) (pins := []) (m := m0) (H := H3)
      (Bt := fun σ2 H3 Nx => wi1 σ2 H3 fun J1 H4 => ∃ W1 : Nat → Nat → Hp → Prop, (∃ m, W1 0 m H4) ∧ ∀ j k H, W1 j k H →
      (J1.stop j H ∧ Nx H) ∨ (J1.go j H ∧ ∃ Nx1 : Hp → Prop, (∀ H', Nx1 H' → ∃ k', k' < k ∧ W1 (j + 1) k' H') ∧ ∀ x H', J1.yld j H x H' → g1 x (wipe σ2 vs1) H' fun σ3 H5 => wipe σ3 vs1 = wipe σ2 vs1 ∧ tt1 σ3 H5 fun b H6 =>
        if b = true then tk σ3 H6 fun y H7 => tv σ3 H7 fun z H8 => ∃ kvs k, y = kV k ∧ H8 D = some (.dK kvs) ∧ kvs.length < sizeLine ∧ Nx1 (upd H8 D (.dK (putK kvs k z))) else Nx1 H6))
      (Kp := fun σ2 => wipe σ2 (own.map (·.2)) = wipe σ (own.map (·.2))) hc (fun _ _ z => z) (fun _ k => kn_wipe k) (clause_out _ _ _) pg pt T ?stat ?turn ?body I4 stE (fun b hb => (fC b hb).1.1) w0
    case stat =>
      intro σ' H' s' I' hn b hb
      have z := I'.ok.exf b hb
      exact ⟨hn b hb, z.1, I'.ok.exfs b hb, .inl hb, z.2, fun p hp => nomatch hp⟩
    case turn =>
      intro i m H5 w5
      rcases turn i m H5 w5 with ⟨stop, qq⟩ | ⟨go, Nx, hNx, step⟩
      · refine .inl ⟨stop, fun s6 I6 => ?_⟩
        obtain ⟨m6, hn6, _⟩ := I6.loc
        have nC : H5 ce.locals = none := I6.free
        have hn7 : s6.heap.Ns ce.locals m6 := hn6
        rw [cL] at nC hn7
        refine out D sC.heap.objs.size s6 m6 H5 (IC.call' (ch := fp) I6.os I6.base I6.hok I6.bare fun b hb => ?_) qq hn7 (IC.fpOk (Nat.le_refl _) nC)
        obtain ⟨⟨z1, z2, z3, z4, z5, z6⟩, _⟩ := fC b hb
        exact ⟨z4, z2, z5, z6⟩
      · exact .inr ⟨go, Nx, hNx, step⟩
    case body =>
      intro more σ2 H5 s5 Nx k2 I5 q5
      refine wpAny_bind (thnF (pi1.run _ s5 σ2 H5 _ I5 q5) fun xv s6 came => ?_)
      refine wpAny_bind (wpAny_standAt (wpAny_bind (wpAny_of_eq (hs1 ce xv) (wpAny_bind (wpAny_holding (thnF came fun itv s7 c7 => ?_))))))
      obtain ⟨it1, fp1, tn1, J1, H7, rfl, I7, T1, st7, f7, W1, ⟨m1, w1⟩, turn1⟩ := c7
      have inner : codeAny (model X.prog X.w) X.A (.compLoop (.DictComp kx vx [⟨t0, i0, f0, 0⟩, ⟨t1, i1, f1, 0⟩] scope pos) 1 (.ref it1) (.ref D) ce)
          (fun r s' => ∃ f, r = .ok f ∧ ∃ σ' H', Kn (wipe σ (own.map (·.2))) σ' ∧ Inv (X.blk sC H3 scope ce fp) ([] ++ more) σ' H' s' ∧ Nx H') s7 := by
        refine clause_loop (Y := X.blk sC H3 scope ce fp) (σ0 := wipe σ2 vs1) (W := W1) (J := J1) (fp := fp1) (tn := tn1) (pins := [] ++ more) (m := m1) (H := H7)
          (Bt := fun σ3 H6 Nx1 => tk σ3 H6 fun y H7 => tv σ3 H7 fun z H8 => ∃ kvs k, y = kV k ∧ H8 D = some (.dK kvs) ∧ kvs.length < sizeLine ∧ Nx1 (upd H8 D (.dK (putK kvs k z))))
          (Kp := fun σ3 => wipe σ3 vs1 = wipe σ2 vs1) hc (fun _ _ z => z) (fun _ k => kn_wipe k) (clause_in _ _ _) pg1 pt1 T1 (fun _ hn b hb => ⟨hn b hb, (f7 b hb).2⟩) ?turn1 ?body1 (I7.weak (wipe_length _ _) fun j v e => (wipe_some e).1) st7 (fun b hb => (f7 b hb).1) w1
        case turn1 =>
          intro j k H8 w8
          rcases turn1 j k H8 w8 with ⟨stop1, nx⟩ | z
          · refine .inl ⟨stop1, fun s9 I9 => ⟨_, rfl, _, H8, kn_wipe2 (kn_wipe k2) (fun j v e z => ?_), I9, nx⟩⟩
            exact (wipe_some e).2 (hv j z)
          · exact .inr z
        case body1 =>
          intro more1 σ3 H8 s8 Nx1 k3 I8 q8
          refine wpAny_bind (wpAny_bind (thnF (pk.run _ s8 σ3 H8 _ I8 q8) fun u s9 kk => ?_))
          obtain ⟨y, H9, I9, r9, q9⟩ := kk
          refine wpAny_bind (wpAny_holding (thnF (pv_.run _ s9 σ3 H9 _ I9 q9) fun u2 s10 kk => ?_))
          obtain ⟨z, H10, I10, r10, kvs, k, rfl, hD, hz, nx⟩ := kk
          refine wpAny_bind (wpAny_standAt (wpAny_holding (d_dictSet (X := X.blk sC H3 scope ce fp) I10 hD hz r9 r10 fun s11 I11 => ?_)))
          exact wpAny_pure ⟨rfl, σ3, _, kn_wipe k3, I11, nx⟩
      refine wpAny_bind (wpAny_runOwn ?_)
      rw [Around.mark_none]
      refine codeAny_mono (start_in inner (T1.self X.A 0 _ _ _ st7 inner)) fun r s8 hr => ?_
      obtain ⟨f, rfl, σ', H', kk, I', nx⟩ := hr
      exact wpAny_pure ⟨rfl, σ', H', kk, I', nx⟩
  exact codeAny_compStart_dict loop (T.self X.A 0 _ _ _ stE loop)
/-- y = {k: v for .. for ..} -/
theorem ps_setDc2 {i : Nat} {y : Str} {py : Pos} {kx vx t0 i0 t1 i1 : Expr} {f0 f1 : List Expr} {scope : Scope} {own : List (Str × Nat)} {vs1 : List Nat} {pos spos : Pos} {wi wi1 : TI} {g g1 : TG} {tt tt1 : TT} {tk tv : TE} (hc : X.calm = true) (hN : X.N.Nodup) (hy : X.N[i]? = some y) (hyl : List.lookup y X.env.scope.names = some NameKind.local)
    (hsw : swapsWith (Expr.DictComp kx vx [⟨t0, i0, f0, 0⟩, ⟨t1, i1, f1, 0⟩] scope pos) (some (Expr.Name y py)) spos.line X.env = pure true) (hi : PI X t0 i0 wi) (ok : BlkOk X.N X.env.scope scope own) (hv : ∀ i ∈ vs1, i ∈ own.map (·.2))
    (hg : PGb X scope t0 g) (ht : PTb X scope f0 tt) (hi1 : PIb X scope t1 i1 wi1) (hg1 : PGb X scope t1 g1) (ht1 : PTb X scope f1 tt1) (hk : PEb X scope kx tk) (he : PEb X scope vx tv)
    (hs : ∀ x, foldedSetIterable i0 X.env x = pure x := by intro _; rfl) (hs1 : ∀ env x, foldedSetIterable i1 env x = pure x := by intro _ _; rfl) :
    PS X (Stmt.Assign [Expr.Name y py] (Expr.DictComp kx vx [⟨t0, i0, f0, 0⟩, ⟨t1, i1, f1, 0⟩] scope pos) spos) (tAsg (tDc2 wi g tt wi1 g1 tt1 tk tv (own.map (·.2)) vs1) (gName i)) := by
  refine ⟨fun pins s σ H D I h => ?_⟩
  rw [exec_Assign_Name_used y py _ spos hsw]
  refine wpAny_bind (wpAny_standAt (wpAny_bind ?_))
  refine wpAny_bind (thn (dc2_core hc hN I hi ok hv hg ht hi1 hg1 ht1 hk he hs hs1 h fun L C s2 m H2 I2 q hn f => ?_) fun x s' hq => wpAny_pure (wpAny_pure hq))
  refine wpAny_assign_Name (store_ok2 (v := .ref L) I2 hN hy (Or.inl hyl) rfl (fun s3 I3 x => ?_) (Or.inr hyl))
  obtain ⟨a, sb, ha⟩ := x
  obtain ⟨z0, z1, z2, z3, z4, z5⟩ := f
  have neC : C ≠ a := ha.elim (fun z => by rw [z]; exact z1) (fun z e => z4 y a z e.symm)
  exact ⟨m, hn.sameBut sb neC, fun h4 sb4 => ⟨σ.set i (some (.ref L)), H2, I3.turned (fun b o hb e => (sb4.2 b hb).trans e) z0 z1 z3 z4 z5, q⟩⟩
end
/-- the inner walk -/
theorem dc1_it {J : It} {n : Nat} {G : Hp → Prop} {Y : Nat → Hp → V → Hp → Prop} (w : Walk J n G Y) {g : TG} {tt : TT} {tk tv : TE} {vs : List Nat} {σ : L2.St} {H1 : Hp} {D : Addr} {Qd : Hp → Prop} (Pv : Nat → Hp → Prop) (h0 : Pv 0 H1) (hG : ∀ i H, i ≤ n → Pv i H → G H)
    (hs : ∀ i x H H', i < n → Pv i H → Y i H x H' → g x (wipe σ vs) H' fun σ2 H2 => wipe σ2 vs = wipe σ vs ∧ tt σ2 H2 fun b H3 =>
      if b = true then tk σ2 H3 fun y H4 => tv σ2 H4 fun z H5 => ∃ kvs k, y = kV k ∧ H5 D = some (.dK kvs) ∧ kvs.length < sizeLine ∧ Pv (i + 1) (upd H5 D (.dK (putK kvs k z))) else Pv (i + 1) H3) (hd : ∀ H, Pv n H → Qd H) :
    ∃ W : Nat → Nat → Hp → Prop, (∃ m, W 0 m H1) ∧ ∀ i m H, W i m H →
      (J.stop i H ∧ Qd H) ∨ (J.go i H ∧ ∃ Nx : Hp → Prop, (∀ H', Nx H' → ∃ m', m' < m ∧ W (i + 1) m' H') ∧ ∀ x H', J.yld i H x H' → g x (wipe σ vs) H' fun σ2 H2 => wipe σ2 vs = wipe σ vs ∧ tt σ2 H2 fun b H3 =>
        if b = true then tk σ2 H3 fun y H4 => tv σ2 H4 fun z H5 => ∃ kvs k, y = kV k ∧ H5 D = some (.dK kvs) ∧ kvs.length < sizeLine ∧ Nx (upd H5 D (.dK (putK kvs k z))) else Nx H3) := by
  refine ⟨fun i m H => m = n - i ∧ i ≤ n ∧ Pv i H, ⟨n, by simp, Nat.zero_le _, h0⟩, fun i m H hW => ?_⟩
  obtain ⟨rfl, hi, p⟩ := hW
  have q := hG i H hi p
  by_cases hlt : i < n
  · exact .inr ⟨w.goes i H hlt q, Pv (i + 1), fun H' p' => ⟨n - (i + 1), by omega, rfl, hlt, p'⟩, fun x H' y => hs i x H H' hlt p (w.yields i H x H' hlt q y)⟩
  · have e : i = n := by omega
    subst e
    exact .inl ⟨w.stops H q, hd H p⟩
/-- both -/
theorem dc2_it {J : It} {n : Nat} {G : Hp → Prop} {Y : Nat → Hp → V → Hp → Prop} (w : Walk J n G Y) {g : TG} {tt : TT} {wi1 : TI} {g1 : TG} {tt1 : TT} {tk tv : TE} {vs vs1 : List Nat} {σ : L2.St} {H1 : Hp} {D : Addr} {Qd : Hp → Prop} (Pv : Nat → Hp → Prop) (h0 : Pv 0 (upd H1 D (.dK []))) (hG : ∀ i H, i ≤ n → Pv i H → G H)
    (hs : ∀ i x H H', i < n → Pv i H → Y i H x H' → g x (wipe σ vs) H' fun σ2 H2 => wipe σ2 vs = wipe σ vs ∧ tt σ2 H2 fun b H3 =>
      if b = true then wi1 σ2 H3 fun J1 H4 => ∃ W1 : Nat → Nat → Hp → Prop, (∃ m, W1 0 m H4) ∧ ∀ j k H, W1 j k H →
        (J1.stop j H ∧ Pv (i + 1) H) ∨ (J1.go j H ∧ ∃ Nx1 : Hp → Prop, (∀ H', Nx1 H' → ∃ k', k' < k ∧ W1 (j + 1) k' H') ∧ ∀ x H', J1.yld j H x H' → g1 x (wipe σ2 vs1) H' fun σ3 H5 => wipe σ3 vs1 = wipe σ2 vs1 ∧ tt1 σ3 H5 fun b H6 =>
          if b = true then tk σ3 H6 fun y H7 => tv σ3 H7 fun z H8 => ∃ kvs k, y = kV k ∧ H8 D = some (.dK kvs) ∧ kvs.length < sizeLine ∧ Nx1 (upd H8 D (.dK (putK kvs k z))) else Nx1 H6)
      else Pv (i + 1) H3) (hd : ∀ H, Pv n H → Qd H) :
    ∃ W : Nat → Nat → Hp → Prop, (∃ m, W 0 m (upd H1 D (.dK []))) ∧ ∀ i m H, W i m H →
      (J.stop i H ∧ Qd H) ∨ (J.go i H ∧ ∃ Nx : Hp → Prop, (∀ H', Nx H' → ∃ m', m' < m ∧ W (i + 1) m' H') ∧ ∀ x H', J.yld i H x H' → g x (wipe σ vs) H' fun σ2 H2 => wipe σ2 vs = wipe σ vs ∧ tt σ2 H2 fun b H3 =>
        if b = true then wi1 σ2 H3 fun J1 H4 => ∃ W1 : Nat → Nat → Hp → Prop, (∃ m, W1 0 m H4) ∧ ∀ j k H, W1 j k H →
          (J1.stop j H ∧ Nx H) ∨ (J1.go j H ∧ ∃ Nx1 : Hp → Prop, (∀ H', Nx1 H' → ∃ k', k' < k ∧ W1 (j + 1) k' H') ∧ ∀ x H', J1.yld j H x H' → g1 x (wipe σ2 vs1) H' fun σ3 H5 => wipe σ3 vs1 = wipe σ2 vs1 ∧ tt1 σ3 H5 fun b H6 =>
            if b = true then tk σ3 H6 fun y H7 => tv σ3 H7 fun z H8 => ∃ kvs k, y = kV k ∧ H8 D = some (.dK kvs) ∧ kvs.length < sizeLine ∧ Nx1 (upd H8 D (.dK (putK kvs k z))) else Nx1 H6)
        else Nx H3) := by
  refine ⟨fun i m H => m = n - i ∧ i ≤ n ∧ Pv i H, ⟨n, by simp, Nat.zero_le _, h0⟩, fun i m H hW => ?_⟩
  obtain ⟨rfl, hi, p⟩ := hW
  have q := hG i H hi p
  by_cases hlt : i < n
  · exact .inr ⟨w.goes i H hlt q, Pv (i + 1), fun H' p' => ⟨n - (i + 1), by omega, rfl, hlt, p'⟩, fun x H' y => hs i x H H' hlt p (w.yields i H x H' hlt q y)⟩
  · have e : i = n := by omega
    subst e
    exact .inl ⟨w.stops H q, hd H p⟩
end Lk
set_option maxRecDepth 100000
set_option maxHeartbeats 4000000
namespace Lk
open PySem PySem.Spec PyProof.Rows L2
/-! ### a class of one's own: its objects, their methods -/
section
variable {X : Cx} {k n : Nat} {f C : Addr} {fd : FuncData} {ps : List Str} {sp : Sp} {x m : Str} {p pos apos : Pos} {o e : Expr} {es : List Expr} {ta : TE} {t : TA}
theorem Room.make {A : Around} (z : Room (k + 1) A) (C : Addr) (us : List Value) (kw : List (Str × Value)) : Room k (A.under (.builtin "type.__call__" ⟨.ref C :: us, kw⟩)) := ⟨z.rm.make C us kw, by
  have := z.gd
  first
    | exact this
    | simpa [Around.under] using this⟩
/-- a method as its callers know it -/
structure CalM (P : Program) (w : World) (K : PySem.W.Frag) (mg : Str → Option Value) (base : Heap) (k : Nat) (C : Addr) (m : Str) (ps : List Str) (sp : Sp) : Prop where
  cls : Cls K C
  ex : ∃ f fd, FnOk P w K mg base CX0 k f fd ps sp ∧ Meth K C m f ∧ Binds K fd ps []
theorem pe_methC {pl : Sem Bool} (ho : PE X o ta) (M : CalM X.prog X.w X.K X.mg X.base k C m ps sp) (z : Room n X.A) (ha : PA X (e :: es) t) (hle : k ≤ n := by first | decide | omega)
    (hst : starEach (e :: es) X.env = (false, eval e X.env) :: starEach es X.env := by rfl) (hpl : (backTo pos (starEach es X.env)).any (·.1) = false := by rfl)
    (ht : eval (.Call (.Attribute o m apos) (e :: es) [] pos) X.env = (eval o X.env >>= fun ov => standAt apos.atName >>= fun _ => holding [ov] (getMethod ov m pl) >>= fun q =>
      callWith pos q.1 q.2 (backTo pos (starEach (e :: es) X.env)) (backToKw pos (keywordEach [] X.env))) := by rfl) :
    PE X (.Call (.Attribute o m apos) (e :: es) [] pos) (tMeth C m sp [] E0 ta t) := by
  obtain ⟨f, fd, F, hm, hb⟩ := M.ex
  constructor
  intro pins s σ H Q I h
  refine PySem.W.methodCall_KW (pl := pl) (thn (ho.run pins s σ H _ I h) ?_) ht
  rintro u s1 ⟨y, H1, I1, ry, a, dx, fs, rfl, ea, l, q⟩
  cases ry
  refine getmeth_ok I1 ea M.cls hm l (PySem.W.callWith_K (first := [.ref a]) (h₀ := X.base) I.ok.mod.kin hm.kp (thn (ha.run pos pins s1 σ H1 _ I1 q) ?_) hst hpl)
  rintro us s2 ⟨vs, H2, I2, rv, q2⟩
  have r1 : Vals (V.ref a :: vs) (Value.ref a :: us) := .cons rfl rv
  have r2 : Vals (V.ref a :: vs ++ []) (Value.ref a :: us ++ []) := r1.append .nil
  exact ⟨I2.kIn, fn_ran (ar := ⟨.ref a :: us, []⟩) F (z.mono hle) pass0 I2 (hb s2 (.ref a :: us) I2.kIn (r2.length.symm.trans (F.len _ _ _ _ q2))) r2 q2⟩
/-- a class as its callers know it -/
structure CalN (P : Program) (w : World) (K : PySem.W.Frag) (mg : Str → Option Value) (base : Heap) (k : Nat) (x : Str) (C : Addr) (ps : List Str) (sp : Sp) : Prop where
  cls : Cls K C
  g : mg x = some (.ref C)
  ex : ∃ f fd, FnOk P w K mg base CX0 k f fd ps sp ∧ Mk K C f ∧ Binds K fd ps []
theorem pe_makeC (N : CalN X.prog X.w X.K X.mg X.base k x C ps sp) (z : Room n X.A) (ha : PA X (e :: es) t) (hle : k + 1 ≤ n := by first | decide | omega) (hg : Gl X x := by rfl) (hdb : (x == ("__debug__" : Str)) = false := by decide)
    (he : starEach (e :: es) X.env = (false, eval e X.env) :: starEach es X.env := by rfl) (hpl : (backTo pos (starEach es X.env)).any (·.1) = false := by rfl) :
    PE X (.Call (.Name x p) (e :: es) [] pos) (tMake C sp [] E0 t) := by
  obtain ⟨f, fd, F, M, hb⟩ := N.ex
  constructor
  intro pins s σ H Q I h
  refine wpAny_Call_Name_kw (ld_glob I hg N.g (PySem.W.callWith_K (h₀ := X.base) I.ok.mod.kin M.kp (thn (ha.run pos pins s σ H _ I h) ?_) he hpl) hdb)
  rintro us s1 ⟨vs, H1, I1, rv, q⟩
  refine ⟨I1.kIn, ?_⟩
  obtain ⟨a, ea⟩ : ∃ a, a = s1.heap.objs.size := ⟨_, rfl⟩
  have q1 := q (a + 1) a (I1.hok.fresh (by omega)) (I1.hok.fresh (by omega)) (Nat.ne_of_lt (Nat.lt_succ_self a))
  have I2 := Inv.made (C := C) I1
  rw [← ea] at I2
  have r1 : Vals (V.ref (a + 1) :: vs) (Value.ref (a + 1) :: us) := .cons rfl rv
  have r2 : Vals (V.ref (a + 1) :: (vs ++ [])) (Value.ref (a + 1) :: us ++ []) := r1.append .nil
  have back := F.run _ X.stack _ _ ⟨Value.ref (a + 1) :: us, []⟩ (Value.ref (a + 1) :: us ++ []) _ _ E0 ((z.mono hle).make C us []) (I2.env0.make C us []) (hb _ (Value.ref (a + 1) :: us) I2.kIn (r2.length.symm.trans (F.len _ _ _ _ q1))) r2 q1
  refine wpAny_call (make_map (f := f) I1.kIn M.makes M.init (beq_iff_eq.mp M.fn) ?_)
  rw [← ea]
  refine codeAny_mono back ?_
  rintro (er | fl) s2 ends
  · exact ends.elim
  cases fl with
  | ret u =>
    obtain ⟨v, H2, I3, ru, ev, q2⟩ := I2.after ends
    subst ev
    exact ⟨ru, V.ref (a + 1), H2, I3, rfl, q2⟩
  | next => exact (ends : False).elim
  | brk => exact (ends : False).elim
  | cont => exact (ends : False).elim
end
end Lk
set_option maxRecDepth 100000
set_option maxHeartbeats 4000000
namespace Lk
open PySem PySem.Spec PyProof.Rows L2
/-! ### a bunch of people as a number -/
def mkN : List Str → (Str → Bool) → Nat
  | [], _ => 0
  | x :: r, p => (if p x = true then 1 else 0) + 2 * mkN r p
theorem mkN_congr : ∀ {ks : List Str} {p q : Str → Bool}, (∀ x ∈ ks, p x = q x) → mkN ks p = mkN ks q
  | [], _, _, _ => rfl
  | x :: r, p, q, h => by
    unfold mkN
    rw [h x List.mem_cons_self, mkN_congr fun y hy => h y (List.mem_cons_of_mem _ hy)]
theorem mkN_lt : ∀ (ks : List Str) (p : Str → Bool), mkN ks p < 2 ^ ks.length
  | [], _ => by simp [mkN]
  | x :: r, p => by
    have := mkN_lt r p
    unfold mkN
    rw [List.length_cons, Nat.pow_succ]
    split <;> omega
theorem mkN_test : ∀ (ks : List Str) (p : Str → Bool) (i : Nat), (mkN ks p).testBit i = (match ks[i]? with | some x => p x | none => false)
  | [], _, i => by simp [mkN]
  | x :: r, p, 0 => by
    unfold mkN
    rw [Nat.testBit_zero]
    show decide (_ % 2 = 1) = p x
    cases e : p x with
    | true => simp
    | false => simp
  | x :: r, p, i + 1 => by
    unfold mkN
    rw [Nat.testBit_succ, List.getElem?_cons_succ, ← mkN_test r p i]
    congr 1
    split <;> omega
/-- who is in the bunch n -/
def prN (ks : List Str) (n : Nat) (x : Str) : Bool := n.testBit (ks.idxOf x)
theorem pr_mkN {ks : List Str} {p : Str → Bool} {x : Str} (hx : x ∈ ks) : prN ks (mkN ks p) x = p x := by
  unfold prN
  rw [mkN_test, List.getElem?_eq_getElem (List.idxOf_lt_length_iff.mpr hx)]
  show p _ = _
  rw [List.getElem_idxOf]
theorem mkN_pr {ks : List Str} (nd : ks.Nodup) {n : Nat} (h : n < 2 ^ ks.length) : mkN ks (prN ks n) = n := by
  refine Nat.eq_of_testBit_eq fun i => ?_
  rw [mkN_test]
  cases e : ks[i]? with
  | some x =>
    show n.testBit _ = _
    rw [idx_at nd e]
  | none =>
    have hi : ks.length ≤ i := List.getElem?_eq_none_iff.mp e
    exact (Nat.testBit_lt_two_pow (Nat.lt_of_lt_of_le h (Nat.pow_le_pow_right (by decide) hi))).symm
theorem mkN_inj {ks : List Str} {p q : Str → Bool} (h : mkN ks p = mkN ks q) : ∀ x ∈ ks, p x = q x := fun x hx => by
  rw [← pr_mkN (p := p) hx, h, pr_mkN hx]
theorem mkN_and (ks : List Str) (p q : Str → Bool) : mkN ks p &&& mkN ks q = mkN ks fun x => p x && q x := by
  refine Nat.eq_of_testBit_eq fun i => ?_
  rw [Nat.testBit_and, mkN_test, mkN_test, mkN_test]
  cases ks[i]? <;> rfl
theorem mkN_none : ∀ ks : List Str, mkN ks (fun _ => false) = 0
  | [] => rfl
  | x :: r => by
    unfold mkN
    rw [mkN_none r]
    rfl
/-- the bit of one -/
def bitN (ks : List Str) (x : Str) : Nat := 2 ^ ks.idxOf x
theorem mkN_add : ∀ {ks : List Str} {p : Str → Bool} {x : Str}, ks.Nodup → x ∈ ks → p x = false → mkN ks (fun z => p z || z == x) = mkN ks p + bitN ks x
  | [], _, _, _, h, _ => nomatch h
  | y :: r, p, x, nd, hx, hp => by
    obtain ⟨n1, n2⟩ := List.nodup_cons.mp nd
    unfold mkN bitN
    by_cases c : y = x
    · subst c
      rw [List.idxOf_cons_self, hp, mkN_congr (p := fun z => p z || z == y) (q := p) fun z hz => ?_]
      · simp
        omega
      · have : z ≠ y := fun e => n1 (e ▸ hz)
        simp [this]
    · have hr : x ∈ r := (List.mem_cons.mp hx).resolve_left fun e => c e.symm
      have ih := mkN_add n2 hr hp
      unfold bitN at ih
      rw [List.idxOf_cons, beq_false_of_ne c, ih]
      simp [Nat.pow_succ, c]
      omega
theorem bitN_mk {ks : List Str} {x : Str} (nd : ks.Nodup) (hx : x ∈ ks) : bitN ks x = mkN ks (· == x) := by
  have := mkN_add (p := fun _ => false) nd hx rfl
  rw [mkN_none, Nat.zero_add] at this
  rw [← this]
  exact mkN_congr fun z _ => by simp
theorem bit_and {ks : List Str} {x : Str} {p : Str → Bool} (nd : ks.Nodup) (hx : x ∈ ks) : (bitN ks x &&& mkN ks p = 0) ↔ p x = false := by
  rw [bitN_mk nd hx, mkN_and, ← mkN_none ks]
  constructor
  · intro h
    have := mkN_inj h x hx
    simpa using this
  · intro h
    refine mkN_congr fun z _ => ?_
    by_cases c : z = x
    · rw [c, h]; simp
    · simp [c]
theorem sub_and {ks : List Str} {p q : Str → Bool} : (mkN ks q &&& mkN ks p = mkN ks q) ↔ ∀ x ∈ ks, q x = true → p x = true := by
  rw [mkN_and]
  constructor
  · intro h x hx hq
    have := mkN_inj h x hx
    rw [hq] at this
    simpa using this
  · intro h
    refine mkN_congr fun z hz => ?_
    cases e : q z with
    | true => rw [h z hz e]; rfl
    | false => rfl
/-- the bits of some, added -/
theorem sum_bits {ks : List Str} (nd : ks.Nodup) : ∀ (l : List Str), l.Nodup → (∀ x ∈ l, x ∈ ks) → (l.map (bitN ks)).sum = mkN ks fun x => decide (x ∈ l)
  | [], _, _ => (mkN_none ks).symm
  | x :: l, hl, hs => by
    obtain ⟨n1, n2⟩ := List.nodup_cons.mp hl
    rw [List.map_cons, List.sum_cons, sum_bits nd l n2 fun y hy => hs y (List.mem_cons_of_mem _ hy), Nat.add_comm, ← mkN_add nd (hs x List.mem_cons_self) (by simpa using n1)]
    refine mkN_congr fun z _ => ?_
    by_cases c : z = x
    · subst c
      simp
    · simp [c]
/-! ### in how many ways the others can come -/
def nxtL (ks : List Str) (bar : Str → Str → Bool) (p : Str → Bool) : List Str := ks.filter fun x => !p x && ks.all fun y => !bar y x || p y
def waysN (ks : List Str) (bar : Str → Str → Bool) : Nat → (Str → Bool) → Nat
  | 0, _ => 1
  | k + 1, p => ((nxtL ks bar p).map fun x => waysN ks bar k fun z => p z || z == x).sum
theorem nxtL_congr {ks : List Str} {bar : Str → Str → Bool} {p q : Str → Bool} (h : ∀ x ∈ ks, p x = q x) : nxtL ks bar p = nxtL ks bar q := by
  unfold nxtL
  refine List.filter_congr fun x hx => ?_
  rw [h x hx]
  congr 1
  rw [Bool.eq_iff_iff, List.all_eq_true, List.all_eq_true]
  exact ⟨fun z y hy => by rw [← h y hy]; exact z y hy, fun z y hy => by rw [h y hy]; exact z y hy⟩
theorem waysN_congr {ks : List Str} {bar : Str → Str → Bool} : ∀ (k : Nat) {p q : Str → Bool}, (∀ x ∈ ks, p x = q x) → waysN ks bar k p = waysN ks bar k q
  | 0, _, _, _ => rfl
  | k + 1, p, q, h => by
    unfold waysN
    rw [nxtL_congr h]
    congr 1
    refine List.map_congr_left fun x _ => waysN_congr k fun z hz => ?_
    rw [h z hz]
theorem nxtL_mem {ks : List Str} {bar : Str → Str → Bool} {p : Str → Bool} {x : Str} : x ∈ nxtL ks bar p ↔ x ∈ ks ∧ p x = false ∧ ∀ y ∈ ks, bar y x = true → p y = true := by
  unfold nxtL
  rw [List.mem_filter, Bool.and_eq_true, Bool.not_eq_true', List.all_eq_true]
  refine ⟨fun ⟨h1, h2, h3⟩ => ⟨h1, h2, fun y hy hb => ?_⟩, fun ⟨h1, h2, h3⟩ => ⟨h1, h2, fun y hy => ?_⟩⟩
  · have := h3 y hy
    rw [hb] at this
    simpa using this
  · cases e : bar y x with
    | true => rw [h3 y hy e]; rfl
    | false => rfl
theorem sum_perm {l m : List Nat} (h : l.Perm m) : l.sum = m.sum := by
  induction h with
  | nil => rfl
  | cons x _ ih => rw [List.sum_cons, List.sum_cons, ih]
  | swap x y l => simp only [List.sum_cons]; omega
  | trans _ _ a b => exact a.trans b
theorem nxtL_perm {ks js : List Str} {bar : Str → Str → Bool} {p : Str → Bool} (h : ks.Perm js) : (nxtL ks bar p).Perm (nxtL js bar p) := by
  unfold nxtL
  have e : (fun x => !p x && ks.all fun y => !bar y x || p y) = fun x => !p x && js.all fun y => !bar y x || p y := by
    funext x
    congr 1
    rw [Bool.eq_iff_iff, List.all_eq_true, List.all_eq_true]
    exact ⟨fun z y hy => z y (h.mem_iff.mpr hy), fun z y hy => z y (h.mem_iff.mp hy)⟩
  rw [e]
  exact h.filter _
theorem waysN_perm {ks js : List Str} {bar : Str → Str → Bool} (h : ks.Perm js) : ∀ (k : Nat) (p : Str → Bool), waysN ks bar k p = waysN js bar k p
  | 0, _ => rfl
  | k + 1, p => by
    unfold waysN
    rw [sum_perm ((nxtL_perm (bar := bar) (p := p) h).map _)]
    congr 1
    exact List.map_congr_left fun x _ => waysN_perm h k _
end Lk
set_option maxRecDepth 100000
set_option maxHeartbeats 4000000
namespace Lk
open PySem PySem.Spec PyProof.Rows L2
/-! ### sorted(row) -/
section
variable {X : Cx}
theorem cr_sortedR : CallR X (.builtin "sorted") (fun xs H Q => ∃ a row, xs = [.ref a] ∧ RowAt H a row ∧ row.length < 64 ∧ ∀ (ys : List Str) p H', Same H H' → H p = none → ys.Perm row → sortedS ys = true → H' p = some (.lst (ys.map V.str)) → Q (.ref p) H') := by
  intro pins s σ H xs us Q I r h
  obtain ⟨a, row, rfl, hrow, h64, q⟩ := h
  rcases hrow with e | e
  rotate_left
  · exact cr_sortedS pins s σ H _ us Q I r ⟨a, row, rfl, .inl (.inl e), h64, fun ys p pm so hp => q ys p _ (same_upd hp) hp pm so upd_same⟩
  obtain ⟨its, rv, ht, _⟩ := I.tuple (e.sq (K := X.K))
  rw [Vals.ref1 r]
  have len := rv.length
  rw [List.length_map] at len
  have hS := rv.strs
  obtain ⟨o, ho, hcl, n, hd⟩ := ht
  refine Calls.call_function_entry PyProof.Rows.kind_sorted PyProof.Rows.plain_sorted PyProof.Rows.entry_sorted (PyProof.Rows.args_sorted1 _) ?_
  unfold Builtin.«sorted»
  refine wpAny_bind (m := checkCount "sorted" 1 1 _) (wpAny_pure ?_)
  refine wpAny_bind (wpAny_collect_seq a (.inr rfl) ho hcl hd (fun h' keep => ?_) (by rw [List.size_toArray, ← len, sizeLine_eq]; omega))
  have I1 : Inv X pins σ H { s with heap := h' } := I.kept (t' := s.toks) keep
  refine wpAny_bind (wpAny_newList ?_ (by rw [← len, sizeLine_eq]; omega))
  have top : (h'.push (seqObj "list" its.toArray 0)).get? h'.objs.size = some (seqObj "list" its.toArray 0) := Heap.get?_push_size _ rfl
  show wpAny _ _ _ _ _ { s with heap := h'.push (seqObj "list" its.toArray 0) }
  refine wpAny_bind (wpAny_holding (wpAny_call_entry PyProof.Rows.slot_list_sort ⟨_, top, rfl⟩ PyProof.Rows.entry_list_sort (list_sort_treeK strKind_oneLt (s := { s with heap := h'.push (seqObj "list" its.toArray 0) }) top hS.keysOf (fun v1 v2 rest e => keyKind_strs (by rw [← e]; exact hS)) (by rw [← len]; exact h64) fun st hp hs => ⟨_, rfl, ?_⟩) (PyProof.Rows.args_list_sort _)))
  obtain ⟨ys, g1, g2, g3⟩ := sorted_out_str hS hp hs
  obtain ⟨ep, at_⟩ := PyProof.Rows.sortedHeap_at (vs := its) (out := (arrOf st).map (·.2)) top
  have few : (ys.map V.str).length ≤ sizeLine := by
    rw [List.length_map, g2.length_eq, sizeLine_eq]
    omega
  have fresh := I1.hok.fresh (Nat.le_refl h'.objs.size)
  refine wpAny_pure ⟨_, rfl, .ref h'.objs.size, upd H h'.objs.size (.lst (ys.map V.str)), I1.laid (t' := s.toks) (fun b u e => ?_) (Nat.le_refl _)
    (show ObjOk X.prog X.w _ _ _ (.lst (ys.map V.str)) from ⟨few, ((arrOf st).map (·.2)).toList, ep, vals_of_strs g1, by rw [Array.toArray_toList]; exact at_⟩), rfl, q ys _ _ (same_upd fresh) fresh g2 g3 upd_same⟩
  have lt : b < h'.objs.size := Heap.lt_size e
  rw [PyProof.Rows.sortedHeap_old (Nat.ne_of_lt lt) (by rw [size_push']; exact Nat.lt_succ_of_lt lt)]
  exact Heap.get?_push_of_some _ e
end
end Lk
set_option maxRecDepth 100000
set_option maxHeartbeats 4000000
namespace Lk
open PySem PySem.Spec PyProof.Rows L2
def bitsK (ks : List Str) : List (Key × V) := ks.map fun x => (Sum.inr x, V.int (bitN ks x : Nat))
theorem bits_get {ks : List Str} {x : Str} (h : x ∈ ks) : valV (bitsK ks) (.inr x) = some (.int (bitN ks x : Nat)) := by
  have key : ∀ l : List Str, x ∈ l → valV (l.map fun y => ((Sum.inr y : Key), V.int (bitN ks y : Nat))) (.inr x) = some (.int (bitN ks x : Nat)) := by
    intro l
    induction l with
    | nil => intro h; cases h
    | cons y l ih =>
      intro h
      unfold valV
      rw [List.map_cons, List.find?_cons]
      by_cases c : y = x
      · subst c
        simp
      · have ne : (decide ((Sum.inr y : Key) = Sum.inr x)) = false := decide_eq_false fun e => c (Sum.inr.inj e)
        have := ih ((List.mem_cons.mp h).resolve_left fun e => c e.symm)
        unfold valV at this
        simp only [ne]
        exact this
  exact key ks h
def barB (ps : List (Str × Str)) (row : List Str) (y x : Str) : Bool := decide (x ∈ barsL ps row y)
def BarrAt (H : Hp) (E : Addr) (ks : List Str) (bar : Str → Str → Bool) : Prop := ∃ kvs, H E = some (.dK kvs) ∧ kvs.length ≤ 100 ∧ ∀ x ∈ ks, valV kvs (.inr x) = some (.int (mkN ks (fun y => bar y x) : Nat))
theorem BarrAt.same {H H' : Hp} {E : Addr} {ks : List Str} {bar : Str → Str → Bool} (s : Same H H') (h : BarrAt H E ks bar) : BarrAt H' E ks bar := by
  obtain ⟨kvs, h1, h2, h3⟩ := h
  exact ⟨kvs, s _ _ h1, h2, h3⟩
def spBitsOf : Sp := fun vs H Q _ => ∃ (r : Addr) (row : List Str), vs = [.ref r] ∧ RowAt H r row ∧ row.Nodup ∧ row.length ≤ 40 ∧
  ∀ D ks H', Same H H' → H D = none → ks.Perm row → sortedS ks = true → H' D = some (.dK (bitsK ks)) → Q (.ref D) H'
def spBarr : Sp := fun vs H Q _ => ∃ (a r D : Addr) (ps : List (Str × Str)) (row ks : List Str), vs = [.ref a, .ref r, .ref D] ∧ FrAt H a ps ∧ ps.length ≤ 1000 ∧ RowAt H r row ∧ row.Nodup ∧ row.length ≤ 40 ∧ H D = some (.dK (bitsK ks)) ∧ ks.Perm row ∧
  ∀ E H', Same H H' → H E = none → BarrAt H' E ks (barB ps row) → Q (.ref E) H'
def spNextO : Sp := fun vs H Q _ => ∃ (D E : Addr) (n : Nat) (ks : List Str) (bar : Str → Str → Bool), vs = [.ref D, .ref E, .int (n : Nat)] ∧ H D = some (.dK (bitsK ks)) ∧ BarrAt H E ks bar ∧ ks.Nodup ∧ ks.length ≤ 40 ∧ n < 2 ^ ks.length ∧
  ∀ p H', Same H H' → H p = none → H' p = some (.lst ((nxtL ks bar (prN ks n)).map V.str)) → Q (.ref p) H'
/-- bunches that can have come, by how many are in them -/
inductive Rch (ks : List Str) (bar : Str → Str → Bool) : Nat → Nat → Prop
  | zero : Rch ks bar 0 0
  | step {k n : Nat} {x : Str} : Rch ks bar k n → x ∈ nxtL ks bar (prN ks n) → Rch ks bar (k + 1) (n + bitN ks x)
def LevIs (ks : List Str) (bar : Str → Str → Bool) (k : Nat) (l : List Nat) : Prop := l.Nodup ∧ ∀ n, n ∈ l ↔ Rch ks bar k n
abbrev LZ := Addr × List Nat
def SizesAt (H : Hp) (ls : List LZ) : Prop := ∀ q ∈ ls, H q.1 = some (.lst (q.2.map fun n : Nat => V.int (n : Nat)))
def refsZ (ls : List LZ) : List V := ls.map fun q => V.ref q.1
def LevsOk (ks : List Str) (bar : Str → Str → Bool) (ls : List LZ) : Prop := ∀ (i : Nat) (q : LZ), ls[i]? = some q → LevIs ks bar i q.2
def spBunch : Sp := fun vs H Q _ => ∃ (D E : Addr) (ks : List Str) (bar : Str → Str → Bool), vs = [.ref D, .ref E] ∧ H D = some (.dK (bitsK ks)) ∧ BarrAt H E ks bar ∧ ks.Nodup ∧ ks.length ≤ 12 ∧
  ∀ p ls H', Same H H' → H p = none → H' p = some (.lst (refsZ ls)) → SizesAt H' ls → ls.length = ks.length + 1 → LevsOk ks bar ls → Q (.ref p) H'
theorem valV_off {kvs : List (Key × V)} {k : Key} (h : ∀ kv ∈ kvs, kv.1 ≠ k) : valV kvs k = none := by
  unfold valV
  rw [List.find?_eq_none.mpr fun kv hkv => by simpa using h kv hkv]
  rfl
theorem sum_cast {f : Str → Nat} : ∀ l : List Str, (l.map fun y => ((f y : Nat) : Int)).sum = ((l.map f).sum : Nat)
  | [] => rfl
  | x :: l => by
    rw [List.map_cons, List.sum_cons, sum_cast l, List.map_cons, List.sum_cons]
    omega
theorem barrers_sum {ps : List (Str × Str)} {row ks : List Str} {x : Str} (pm : ks.Perm row) (nd : row.Nodup) : ((row.filter fun y => decide (x ∈ barsL ps row y)).map (bitN ks)).sum = mkN ks fun y => barB ps row y x := by
  rw [sum_bits (pm.nodup_iff.mpr nd) _ (nd.filter _) fun y hy => pm.mem_iff.mpr (List.mem_filter.mp hy).1]
  refine mkN_congr fun z hz => ?_
  unfold barB
  refine decide_eq_decide.mpr ⟨fun h => of_decide_eq_true (List.mem_filter.mp h).2, fun h => List.mem_filter.mpr ⟨pm.mem_iff.mp hz, decide_eq_true h⟩⟩
theorem band_nat (a b : Nat) : Builtin.bitAnd (a : Int) (b : Int) = ((a &&& b : Nat) : Int) := PySem.W.os_band a b
end Lk
set_option maxRecDepth 100000
set_option maxHeartbeats 4000000
namespace Lk
open PySem PySem.Spec PyProof.Rows L2
section
variable {ks : List Str} {bar : Str → Str → Bool} {k j n m : Nat} {x : Str}
theorem mk_add (nd : ks.Nodup) (hn : n < 2 ^ ks.length) (hx : x ∈ ks) (hp : prN ks n x = false) : n + bitN ks x = mkN ks fun z => prN ks n z || z == x := by
  rw [mkN_add nd hx hp, mkN_pr nd hn]
theorem pr_add (nd : ks.Nodup) (hn : n < 2 ^ ks.length) (hx : x ∈ ks) (hp : prN ks n x = false) : ∀ z ∈ ks, prN ks (n + bitN ks x) z = (prN ks n z || z == x) := fun z hz => by
  rw [mk_add nd hn hx hp, pr_mkN hz]
theorem Rch.lt (nd : ks.Nodup) (h : Rch ks bar k n) : n < 2 ^ ks.length := by
  induction h with
  | zero => exact Nat.two_pow_pos _
  | step h hx ih =>
    obtain ⟨h1, h2, _⟩ := nxtL_mem.mp hx
    rw [mk_add nd ih h1 h2]
    exact mkN_lt _ _
theorem filter_or {p : Str → Bool} : ∀ {l : List Str}, l.Nodup → x ∈ l → p x = false → (l.filter fun z => p z || z == x).length = (l.filter p).length + 1
  | [], _, h, _ => nomatch h
  | y :: l, nd, h, hp => by
    obtain ⟨ny, nd'⟩ := List.nodup_cons.mp nd
    by_cases c : y = x
    · subst c
      rw [List.filter_cons_of_pos (by simp), List.filter_cons_of_neg (by simp [hp]), List.length_cons]
      congr 2
      refine List.filter_congr fun z hz => ?_
      have : ¬ z = y := fun e => ny (e ▸ hz)
      simp [this]
    · have ih := filter_or nd' ((List.mem_cons.mp h).resolve_left fun e => c e.symm) hp
      by_cases q : p y = true
      · rw [List.filter_cons_of_pos (by simp [q]), List.filter_cons_of_pos q, List.length_cons, List.length_cons, ih]
      · rw [List.filter_cons_of_neg (by simp [q, c]), List.filter_cons_of_neg q, ih]
theorem Rch.pop (nd : ks.Nodup) (h : Rch ks bar k n) : (ks.filter (prN ks n)).length = k := by
  induction h with
  | zero =>
    rw [List.filter_eq_nil_iff.mpr fun x _ => ?_]
    · rfl
    · unfold prN
      simp
  | step h hx ih =>
    obtain ⟨h1, h2, _⟩ := nxtL_mem.mp hx
    rw [List.filter_congr (pr_add nd (h.lt nd) h1 h2), filter_or nd h1 h2, ih]
theorem Rch.uniq (nd : ks.Nodup) (h : Rch ks bar k n) (h' : Rch ks bar j n) : k = j := by rw [← h.pop nd, ← h'.pop nd]
theorem Rch.full (nd : ks.Nodup) (h : Rch ks bar ks.length n) : n = mkN ks fun _ => true := by
  have e := h.pop nd
  have all : ∀ x ∈ ks, prN ks n x = true := List.filter_eq_self.mp ((List.filter_sublist).eq_of_length e)
  rw [← mkN_pr nd (h.lt nd)]
  exact mkN_congr all
theorem Rch.le (nd : ks.Nodup) (h : Rch ks bar k n) : k ≤ ks.length := by
  rw [← h.pop nd]
  exact List.length_filter_le _ _
theorem nat_bound : ∀ (m : Nat) {l : List Nat}, l.Nodup → (∀ n ∈ l, n < m) → l.length ≤ m
  | 0, l, _, h => by
    cases l with
    | nil => exact Nat.le_refl _
    | cons a l => exact absurd (h a (List.mem_cons_self ..)) (by omega)
  | m + 1, l, nd, h => by
    have z := nat_bound m (l := l.erase m) (nd.erase m) fun n hn => by
      have := (nd.mem_erase_iff).mp hn
      have := h n this.2
      omega
    have := List.length_erase (l := l) (a := m)
    split at this <;> omega
theorem LevIs.size (nd : ks.Nodup) (h : LevIs ks bar k l) : l.length ≤ 2 ^ ks.length := nat_bound _ h.1 fun n hn => ((h.2 n).mp hn).lt nd
theorem lev_zero : LevIs ks bar 0 [0] := by
  refine ⟨by simp, fun n => ?_⟩
  constructor
  · intro h
    rw [List.mem_singleton.mp h]
    exact .zero
  · intro h
    cases h
    simp
/-! ### the keys that grow -/
def addU (gs : List Nat) (n : Nat) : List Nat := if n ∈ gs then gs else gs ++ [n]
def keysU (gs : List Nat) : List (Key × V) := gs.map fun n : Nat => ((Sum.inl (n : Int) : Key), V.bl true)
theorem addU_nodup {gs : List Nat} (h : gs.Nodup) : (addU gs n).Nodup := by
  unfold addU
  split
  · exact h
  · rename_i c
    rw [List.nodup_append]
    refine ⟨h, by simp, fun a ha b hb e => ?_⟩
    rw [List.mem_singleton.mp hb] at e
    exact c (e ▸ ha)
theorem addU_mem {gs : List Nat} : m ∈ addU gs n ↔ m ∈ gs ∨ m = n := by
  unfold addU
  split
  · rename_i c
    exact ⟨.inl, fun h => h.elim id fun e => e ▸ c⟩
  · simp
theorem addU_length {gs : List Nat} : (addU gs n).length ≤ gs.length + 1 := by
  unfold addU
  split
  · omega
  · simp
theorem put_keysU {gs : List Nat} : putK (keysU gs) (.inl (n : Int)) (.bl true) = keysU (addU gs n) := by
  unfold addU
  by_cases c : n ∈ gs
  · rw [if_pos c]
    unfold putK
    rw [if_pos]
    · unfold keysU
      rw [List.map_map]
      refine List.map_congr_left fun m hm => ?_
      show (if (Sum.inl (m : Int) : Key) = Sum.inl (n : Int) then _ else _) = _
      split
      · rename_i e
        exact congrArg (fun k => (k, V.bl true)) rfl
      · rfl
    · rw [List.any_eq_true]
      exact ⟨_, List.mem_map.mpr ⟨n, c, rfl⟩, by simp⟩
  · rw [if_neg c, putK_new _ (valV_off fun kv hkv e => ?_)]
    · unfold keysU
      rw [List.map_append]
      rfl
    · obtain ⟨m, hm, rfl⟩ := List.mem_map.mp hkv
      have e1 : (m : Int) = n := Sum.inl.inj e
      have : m = n := by omega
      exact c (this ▸ hm)
theorem keysU_list {gs : List Nat} : ((keysU gs).map fun kv => kV kv.1) = gs.map fun n : Nat => V.int (n : Nat) := by
  unfold keysU
  rw [List.map_map]
  rfl
/-- what has grown when i bunches are through, and of the next one j who can come -/
structure Grown (ks : List Str) (bar : Str → Str → Bool) (l : List Nat) (i j : Nat) (gs : List Nat) : Prop where
  nd : gs.Nodup
  mem : ∀ m, m ∈ gs ↔ (∃ n ∈ l.take i, ∃ x ∈ nxtL ks bar (prN ks n), m = n + bitN ks x) ∨ ∃ n, l[i]? = some n ∧ ∃ x ∈ (nxtL ks bar (prN ks n)).take j, m = n + bitN ks x
  len : gs.length ≤ i * ks.length + j
theorem Grown.zero {l : List Nat} : Grown ks bar l 0 0 [] := ⟨List.nodup_nil, fun m => by simp, Nat.zero_le _⟩
theorem Grown.step {l gs : List Nat} {i : Nat} (h : Grown ks bar l i j gs) (hn : l[i]? = some n) (hx : (nxtL ks bar (prN ks n))[j]? = some x) : Grown ks bar l i (j + 1) (addU gs (n + bitN ks x)) := by
  refine ⟨addU_nodup h.nd, fun m => ?_, ?_⟩
  · rw [addU_mem, h.mem m]
    constructor
    · rintro ((a | ⟨n', e, y, hy, em⟩) | e)
      · exact .inl a
      · exact .inr ⟨n', e, y, by rw [List.take_add_one]; exact List.mem_append_left _ hy, em⟩
      · exact .inr ⟨n, hn, x, by rw [List.take_add_one, hx]; simp, e⟩
    · rintro (a | ⟨n', e, y, hy, em⟩)
      · exact .inl (.inl a)
      · rw [hn] at e
        cases e
        rw [List.take_add_one, hx] at hy
        rcases List.mem_append.mp hy with u | u
        · exact .inl (.inr ⟨n, hn, y, u, em⟩)
        · have : y = x := by simpa using u
          subst this
          exact .inr em
  · have := addU_length (gs := gs) (n := n + bitN ks x)
    have := h.len
    omega
theorem nxtL_len : (nxtL ks bar p).length ≤ ks.length := List.length_filter_le _ _
theorem Grown.next {l gs : List Nat} {i : Nat} (h : Grown ks bar l i (nxtL ks bar (prN ks n)).length gs) (hn : l[i]? = some n) : Grown ks bar l (i + 1) 0 gs := by
  refine ⟨h.nd, fun m => ?_, ?_⟩
  · rw [h.mem m]
    constructor
    · rintro (⟨n', hn', e⟩ | ⟨n', e, y, hy, em⟩)
      · exact .inl ⟨n', by rw [List.take_add_one]; exact List.mem_append_left _ hn', e⟩
      · refine .inl ⟨n', by rw [List.take_add_one, e]; simp, y, ?_, em⟩
        exact List.mem_of_mem_take hy
    · rintro (⟨n', hn', e⟩ | ⟨n', e, y, hy, em⟩)
      · rw [List.take_add_one, hn] at hn'
        rcases List.mem_append.mp hn' with u | u
        · exact .inl ⟨n', u, e⟩
        · have e1 : n' = n := by simpa using u
          subst e1
          obtain ⟨y, hy, em⟩ := e
          exact .inr ⟨n', hn, y, by rw [List.take_of_length_le (Nat.le_refl _)]; exact hy, em⟩
      · simp at hy
  · have := h.len
    have := nxtL_len (ks := ks) (bar := bar) (p := prN ks n)
    rw [Nat.succ_mul]
    omega
theorem Grown.done {l gs : List Nat} (h : Grown ks bar l l.length 0 gs) (hl : LevIs ks bar k l) : LevIs ks bar (k + 1) gs := by
  refine ⟨h.nd, fun m => ?_⟩
  rw [h.mem m, List.take_of_length_le (Nat.le_refl _)]
  constructor
  · rintro (⟨n, hn, x, hx, rfl⟩ | ⟨n, e, y, hy, em⟩)
    · exact .step ((hl.2 n).mp hn) hx
    · simp at hy
  · intro r
    cases r with
    | step r hx => exact .inl ⟨_, (hl.2 _).mpr r, _, hx, rfl⟩
end
end Lk
set_option maxRecDepth 100000
set_option maxHeartbeats 4000000
namespace Lk
open PySem PySem.Spec PyProof.Rows L2
/-! ### a heap without one of its objects -/
def wo (H : Hp) (p : Addr) : Hp := fun b => if b = p then none else H b
theorem wo_ne {H : Hp} {p b : Addr} (h : b ≠ p) : wo H p b = H b := by
  unfold wo
  rw [if_neg h]
theorem wo_same (H : Hp) (p : Addr) : Same (wo H p) H := fun b o e => by
  by_cases c : b = p
  · unfold wo at e
    rw [if_pos c] at e
    cases e
  · rwa [wo_ne c] at e
theorem wo_upd {H H' : Hp} {p : Addr} {o : HO} (s : Same (wo H p) H') : Same (wo H p) (upd H' p o) := fun b u e => by
  have n : b ≠ p := fun z => by
    unfold wo at e
    rw [if_pos z] at e
    cases e
  rw [upd_ne n]
  exact s _ _ e
section
variable {H : Hp} {p C dx : Addr} {fs : List (Str × V)}
theorem wo_at {b : Addr} {o : HO} (hp : H p = some (.ins C dx fs)) (e : H b = some o) (d : o ≠ .ins C dx fs) : wo H p b = some o := by
  rw [wo_ne (ne_of e hp d)]
  exact e
theorem RowAt.wo {r : Addr} {row : List Str} (hp : H p = some (.ins C dx fs)) (h : RowAt H r row) : RowAt (wo H p) r row := by
  rcases h with ⟨o, h1, h2⟩ | h
  · exact .inl ⟨o, h1, wo_at hp h2 (fun e => nomatch e)⟩
  · exact .inr (wo_at hp h (fun e => nomatch e))
theorem FrAt.wo {a : Addr} {ps : List (Str × Str)} (hp : H p = some (.ins C dx fs)) (h : FrAt H a ps) : FrAt (wo H p) a ps := by
  obtain ⟨bs, h1, h2, h3⟩ := h
  refine ⟨bs, ?_, fun b hb => wo_at hp (h2 b hb) (fun e => nomatch e), h3⟩
  rcases h1 with h1 | h1
  · exact .inl (wo_at hp h1 (fun e => nomatch e))
  · exact .inr (wo_at hp h1 (fun e => nomatch e))
end
/-! ### a Count -/
def fldsC (D E W : Addr) : List (Str × V) := putF "ways" (.ref W) (putF "barrers" (.ref E) (putF "bits" (.ref D) []))
theorem fldsC_bits (D E W : Addr) : (fldsC D E W).lookup ("bits" : Str) = some (V.ref D) := by
  unfold fldsC
  rw [lookup_putF, if_neg (by decide +kernel), lookup_putF, if_neg (by decide +kernel), lookup_putF, if_pos rfl]
theorem fldsC_barrers (D E W : Addr) : (fldsC D E W).lookup ("barrers" : Str) = some (V.ref E) := by
  unfold fldsC
  rw [lookup_putF, if_neg (by decide +kernel), lookup_putF, if_pos rfl]
theorem fldsC_ways (D E W : Addr) : (fldsC D E W).lookup ("ways" : Str) = some (V.ref W) := by
  unfold fldsC
  rw [lookup_putF, if_pos rfl]
theorem fldsC_no (D E W : Addr) {m : Str} (h1 : ¬ m = "ways") (h2 : ¬ m = "barrers") (h3 : ¬ m = "bits") : (fldsC D E W).lookup m = none := by
  unfold fldsC
  rw [lookup_putF, if_neg h1, lookup_putF, if_neg h2, lookup_putF, if_neg h3]
  rfl
/-- the bunches from size k on have their ways, of size k the first i -/
def WaysUp (ks : List Str) (bar : Str → Str → Bool) (kvs : List (Key × V)) (P : Nat → Nat → Prop) : Prop := ∀ j n, Rch ks bar j n → P j n → valV kvs (.inl (n : Int)) = some (.int (waysN ks bar (ks.length - j) (prN ks n) : Nat))
structure CountIs (C : Addr) (H : Hp) (p D E W : Addr) (ks : List Str) (bar : Str → Str → Bool) (kvs : List (Key × V)) : Prop where
  ob : ∃ dx, H p = some (.ins C dx (fldsC D E W))
  bi : H D = some (.dK (bitsK ks))
  br : BarrAt H E ks bar
  wa : H W = some (.dK kvs)
theorem CountIs.same {C : Addr} {H H' : Hp} {p D E W : Addr} {ks : List Str} {bar : Str → Str → Bool} {kvs : List (Key × V)} (h : CountIs C H p D E W ks bar kvs) (s : Same H H') : CountIs C H' p D E W ks bar kvs := by
  obtain ⟨⟨dx, h1⟩, h2, h3, h4⟩ := h
  exact ⟨⟨dx, s _ _ h1⟩, s _ _ h2, h3.same s, s _ _ h4⟩
def CountAt (C : Addr) (H : Hp) (p : Addr) (ks : List Str) (bar : Str → Str → Bool) : Prop := ∃ D E W kvs, CountIs C H p D E W ks bar kvs ∧ WaysUp ks bar kvs fun _ _ => True
theorem CountAt.same {C : Addr} {H H' : Hp} {p : Addr} {ks : List Str} {bar : Str → Str → Bool} (s : Same H H') (h : CountAt C H p ks bar) : CountAt C H' p ks bar := by
  obtain ⟨D, E, W, kvs, h1, h2⟩ := h
  exact ⟨D, E, W, kvs, h1.same s, h2⟩
abbrev BN := Addr × Str
def refsB (ts : List BN) : List V := ts.map fun q => V.ref q.1
def spWB (C : Addr) : Sp := fun vs H Q _ => ∃ (p D E W : Addr) (n : Nat) (ks : List Str) (bar : Str → Str → Bool) (kvs : List (Key × V)) (f : Str → Nat), vs = [.ref p, .int (n : Nat)] ∧ CountIs C H p D E W ks bar kvs ∧ ks.Nodup ∧ ks.length ≤ 40 ∧ n < 2 ^ ks.length ∧
  (∀ x ∈ nxtL ks bar (prN ks n), valV kvs (.inl ((n + bitN ks x : Nat) : Int)) = some (.int (f x : Nat))) ∧
  ∀ r (ts : List BN) H', Same H H' → H r = none → H' r = some (.lst (refsB ts)) → (∀ q ∈ ts, TupAt H' q.1 [.str q.2, .int (f q.2 : Nat)]) → ts.map (·.2) = nxtL ks bar (prN ks n) → Q (.ref r) H'
def spCI (C : Addr) : Sp := fun vs H Q _ => ∃ (p a r dx : Addr) (ps : List (Str × Str)) (row : List Str), vs = [.ref p, .ref a, .ref r] ∧ H p = some (.ins C dx []) ∧ FrAt H a ps ∧ ps.length ≤ 1000 ∧ RowAt H r row ∧ row.Nodup ∧ row.length ≤ 12 ∧ goneR ps [] row = [] ∧
  ∀ ks H', Same (wo H p) H' → CountAt C H' p ks (barB ps row) → ks.Perm row → sortedS ks = true → Q .non H'
def spHM : Sp := fun vs H Q _ => ∃ (a r : Addr) (ps : List (Str × Str)) (row : List Str), vs = [.ref a, .ref r] ∧ FrAt H a ps ∧ ps.length ≤ 1000 ∧ RowAt H r row ∧ row.Nodup ∧ row.length ≤ 12 ∧ goneR ps [] row = [] ∧
  ∀ H', Same H H' → Q (.int (waysN row (barB ps row) row.length (fun _ => false) : Nat)) H'
/-- the names the class has, and the names it has not -/
structure TxtC (K : PySem.W.Frag) (C : Addr) : Prop where
  cl : Cls K C
  n1 : NoAttr K C "bits"
  n2 : NoAttr K C "barrers"
  n3 : NoAttr K C "ways"
section
variable {ks : List Str} {bar : Str → Str → Bool} {kvs : List (Key × V)} {k n : Nat}
/-- the ways behind a bunch are those behind it and one more, together -/
theorem ways_step (nd : ks.Nodup) (r : Rch ks bar k n) (lt : k < ks.length) : ((nxtL ks bar (prN ks n)).map fun x => waysN ks bar (ks.length - (k + 1)) (prN ks (n + bitN ks x))).sum = waysN ks bar (ks.length - k) (prN ks n) := by
  rw [show ks.length - k = (ks.length - (k + 1)) + 1 by omega]
  show _ = ((nxtL ks bar (prN ks n)).map fun x => waysN ks bar (ks.length - (k + 1)) fun z => prN ks n z || z == x).sum
  congr 1
  refine List.map_congr_left fun x hx => waysN_congr _ fun z hz => ?_
  obtain ⟨h1, h2, _⟩ := nxtL_mem.mp hx
  exact pr_add nd (r.lt nd) h1 h2 z hz
end
end Lk
set_option maxRecDepth 100000
set_option maxHeartbeats 4000000
namespace Lk
open PySem PySem.Spec PyProof.Rows L2
theorem putF_len {f : Str} {v : V} : ∀ fs : List (Str × V), (putF f v fs).length ≤ fs.length + 1
  | [] => Nat.le_refl _
  | (g, x) :: r => by
    unfold putF
    split
    · simp
    · have := putF_len (f := f) (v := v) r
      rw [List.length_cons, List.length_cons]
      omega
theorem made_same {H H' : Hp} {x dx C : Addr} (nx : H x = none) (nd : H dx = none) (s : Same (wo (upd (upd H dx (.own x)) x (.ins C dx [])) x) H') : Same H H' := fun b u z => by
  have b1 : b ≠ x := ne_of_none z nx
  have b2 : b ≠ dx := ne_of_none z nd
  refine s b u ?_
  rw [wo_ne b1, upd_ne b1, upd_ne b2]
  exact z
section
variable {C : Addr} {H : Hp} {p D E W : Addr} {ks : List Str} {bar : Str → Str → Bool} {kvs : List (Key × V)}
theorem CountIs.put (h : CountIs C H p D E W ks bar kvs) (nD : D ≠ W) (nE : E ≠ W) (kvs' : List (Key × V)) : CountIs C (upd H W (.dK kvs')) p D E W ks bar kvs' := by
  obtain ⟨⟨dx, h1⟩, h2, ⟨kE, e1, e2, e3⟩, h4⟩ := h
  exact ⟨⟨dx, (upd_ne (ne_of h1 h4 (fun z => nomatch z))).trans h1⟩, (upd_ne nD).trans h2, ⟨kE, (upd_ne nE).trans e1, e2, e3⟩, upd_same⟩
theorem WaysUp.put {P P' : Nat → Nat → Prop} {k n : Nat} (h : WaysUp ks bar kvs P) (nd : ks.Nodup) (r : Rch ks bar k n) (hP : ∀ j m, Rch ks bar j m → P' j m → P j m ∨ m = n) : WaysUp ks bar (putK kvs (.inl (n : Int)) (.int (waysN ks bar (ks.length - k) (prN ks n) : Nat))) P' := fun j m hr hp => by
  rw [valV_put]
  by_cases c : m = n
  · subst c
    rw [if_pos rfl, hr.uniq nd r]
  · rw [if_neg (fun e => c (by have : (m : Int) = n := Sum.inl.inj e; omega))]
    exact h j m hr ((hP j m hr hp).resolve_right c)
theorem ways_top (nd : ks.Nodup) : WaysUp ks bar [((Sum.inl ((mkN ks fun _ => true : Nat) : Int) : Key), V.int 1)] fun j _ => ks.length ≤ j := fun j m hr hp => by
  have e : j = ks.length := Nat.le_antisymm (hr.le nd) hp
  subst e
  rw [hr.full nd, Nat.sub_self]
  simp [valV, waysN]
end
theorem cutL_init {α : Type} (xs : List α) : cutL xs none (some (-1)) = xs.dropLast := by
  unfold cutL
  rw [HT.sIx_none, List.drop_zero, Nat.sub_zero, List.dropLast_eq_take]
  congr 1
  unfold HT.sIx
  simp
  omega
theorem below16 {n : Nat} (h : n ≤ 60000) : n < sizeLine := Nat.lt_of_le_of_lt h (by decide)
end Lk
set_option maxRecDepth 100000
set_option maxHeartbeats 4000000
namespace Lk
open PySem PySem.Spec PyProof.Rows L2
/-! ### counted by sets of who has come, by the law -/
section
variable {row : List Str} {bar : Str → Str → Bool} {c k : Nat}
theorem not_or {p : Str → Bool} {x : Str} : ∀ {l : List Str}, l.Nodup → x ∈ l → p x = false → (l.filter fun z => !p z).length = (l.filter fun z => !(p z || z == x)).length + 1
  | [], _, h, _ => nomatch h
  | y :: l, nd, h, hp => by
    obtain ⟨ny, nd'⟩ := List.nodup_cons.mp nd
    by_cases c : y = x
    · subst c
      rw [List.filter_cons_of_pos (by simp [hp]), List.filter_cons_of_neg (by simp), List.length_cons]
      congr 2
      refine List.filter_congr fun z hz => ?_
      have : ¬ z = y := fun e => ny (e ▸ hz)
      simp [this]
    · have ih := not_or nd' ((List.mem_cons.mp h).resolve_left fun e => c e.symm) hp
      by_cases q : p y = true
      · rw [List.filter_cons_of_neg (by simp [q]), List.filter_cons_of_neg (by simp [q]), ih]
      · rw [List.filter_cons_of_pos (by simp [q]), List.filter_cons_of_pos (by simp [q, c]), List.length_cons, List.length_cons, ih]
end
/-- who comes after whom, each one's list -/
def AfterB (H : Hp) (D : Addr) (row : List Str) (bar : Str → Str → Bool) : Prop := ∃ kvs, H D = some (.dK kvs) ∧ ∀ x ∈ row, ∃ (la : Addr) (ys : List Str), valV kvs (.inr x) = some (.ref la) ∧ H la = some (.lst (ys.map V.str)) ∧ ys.Nodup ∧ (∀ y ∈ ys, y ∈ row) ∧ ∀ y ∈ row, bar x y = decide (y ∈ ys)
theorem AfterB.same {H H' : Hp} {D : Addr} {row : List Str} {bar : Str → Str → Bool} (s : Same H H') (h : AfterB H D row bar) : AfterB H' D row bar := by
  obtain ⟨kvs, h1, h3⟩ := h
  refine ⟨kvs, s _ _ h1, fun x hx => ?_⟩
  obtain ⟨la, ys, a, b, c⟩ := h3 x hx
  exact ⟨la, ys, a, s _ _ b, c⟩
end Lk
set_option maxRecDepth 100000
set_option maxHeartbeats 4000000
namespace Lk
open PySem PySem.Spec PyProof.Rows L2

/-! ### texts in order -/
theorem risingS_pw : ∀ (l : List Str) (p : Str), risingS p l = true → (p :: l).Pairwise (fun a b => tlx a ≤ tlx b)
  | [], p, _ => List.pairwise_singleton _ _
  | x :: r, p, h => by
    have h' : (!ltCps x.cps.toList p.cps.toList && risingS x r) = true := h
    rw [Bool.and_eq_true] at h'
    have ih := risingS_pw r x h'.2
    have px : tlx p ≤ tlx x := by
      have e := h'.1
      rw [ltCps_eq, Bool.not_eq_true', decide_eq_false_iff_not] at e
      exact List.not_lt.mp e
    refine List.pairwise_cons.mpr ⟨fun y hy => ?_, ih⟩
    rcases List.mem_cons.mp hy with rfl | hy
    · exact px
    · exact List.le_trans px (List.rel_of_pairwise_cons ih hy)
theorem sortedS_pw : ∀ {l : List Str}, sortedS l = true → l.Pairwise (fun a b => tlx a ≤ tlx b)
  | [], _ => List.Pairwise.nil
  | x :: r, h => risingS_pw r x h
theorem sortedS_uniq {xs ys : List Str} (p : xs.Perm ys) (hx : sortedS xs = true) (hy : sortedS ys = true) : xs = ys :=
  List.Perm.eq_of_pairwise (le := fun a b => tlx a ≤ tlx b) (fun a b _ _ h1 h2 => str_ext (List.le_antisymm h1 h2)) (sortedS_pw hx) (sortedS_pw hy) p

/-! ### a dict that is walked where it is made -/
section
variable {X : Cx}
end

/-! ### friends, their pairs tuples or lists -/
def PairX (H : Hp) (bs : List B3) : Prop := (∀ b ∈ bs, H b.1 = some (.tup [.str b.2.1, .str b.2.2])) ∨ ∀ b ∈ bs, H b.1 = some (.lst [.str b.2.1, .str b.2.2])
theorem PairX.same {H H' : Hp} {bs : List B3} (s : Same H H') (h : PairX H bs) : PairX H' bs := h.elim (fun e => .inl fun b hb => s _ _ (e b hb)) (fun e => .inr fun b hb => s _ _ (e b hb))
/-- those whom a dict has beside one -/
def other1 (who : Str) (k : List Key) : Option Str := match k with
  | [Sum.inr a, Sum.inr b] => if a = who then some b else none
  | _ => none
def others (who : Str) (kvs : List (List Key × V)) : List Str := kvs.filterMap fun e => other1 who e.1
/-! ### promises -/
/-! ### names of one stem -/
def zz : Str := "zzzzzzzz"
end Lk
set_option maxRecDepth 100000
set_option maxHeartbeats 4000000
namespace Lk
open PySem PySem.Spec PyProof.Rows L2
/-! ### list.remove of a text -/
section
variable {X : Cx}
end
/-! ### `dict([(pair, True) for pair in pals])` -/
/-! ### whoever can go goes first -/
section
variable {ps : List (Str × Str)} {stay : Nat → List Str} {sv : List Str}
/-- from a row, `m` served, to another one: whoever can go goes, in any order; where none can the last one served is put back -/
inductive Gre (ps : List (Str × Str)) (stay : Nat → List Str) (sv : List Str) : Nat → List Str → Nat → List Str → Prop where
  | done (m : Nat) (row : List Str) : Gre ps stay sv m row m row
  | go {m m' : Nat} {row row' : List Str} (x : Str) (h : LooseIn ps row x) (hs : x ∉ stay m) (t : Gre ps stay sv m (rem row x) m' row') : Gre ps stay sv m row m' row'
  | back {m m' : Nat} {row row' : List Str} (y : Str) (h : sv[m]? = some y) (no : ∀ x, LooseIn ps row x → x ∈ stay (m + 1)) (t : Gre ps stay sv m (y :: row) m' row') : Gre ps stay sv (m + 1) row m' row'
theorem Gre.trans {m m1 m2 : Nat} {a b c : List Str} (h : Gre ps stay sv m a m1 b) : Gre ps stay sv m1 b m2 c → Gre ps stay sv m a m2 c := by
  induction h with
  | done _ _ => exact id
  | go x h hs t ih => exact fun k => .go x h hs (ih k)
  | back y h no t ih => exact fun k => .back y h no (ih k)
theorem Gre.le {m m1 : Nat} {a b : List Str} (h : Gre ps stay sv m a m1 b) : m1 ≤ m := by
  induction h with
  | done _ _ => exact Nat.le_refl _
  | go x h hs t ih => exact ih
  | back y h no t ih => omega
theorem Gre.way {m m1 : Nat} {a b : List Str} (h : Gre ps stay sv m a m1 b) : ∃ ds, Way ps stay sv m1 m a ds b := by
  induction h with
  | done _ _ => exact ⟨[], .done _⟩
  | go x h hs t ih =>
    obtain ⟨ds, w⟩ := ih
    exact ⟨_, .go x h hs w⟩
  | back y h no t ih =>
    obtain ⟨ds, w⟩ := ih
    exact ⟨_, .back y h w⟩
/-- a way from the beginning goes on from wherever this leads to, and no more are left -/
theorem Gre.follow {m m1 u : Nat} {a b : List Str} (h : Gre ps stay sv m a m1 b) : (sv.take m ++ a).Nodup → u ≤ m1 → ∀ {ds fin}, Way ps stay sv u m a ds fin → ∃ ds' fin', Way ps stay sv u m1 b ds' fin' ∧ ∀ x ∈ fin', x ∈ fin := by
  induction h with
  | done m row => exact fun _ _ {ds fin} w => ⟨ds, fin, w, fun _ h => h⟩
  | go x h hs t ih =>
    intro nd hu ds fin w
    obtain ⟨ds', w'⟩ := w.swap nd x h.nb
    obtain ⟨d2, f2, w2, s2⟩ := ih (nd_rem nd) hu w'
    exact ⟨d2, f2, w2, fun y hy => (List.mem_filter.mp (s2 y hy)).1⟩
  | @back m m' row row' y hy no t ih =>
    intro nd hu ds fin w
    have tl := t.le
    cases w with
    | done _ => omega
    | go x h hs t' => exact absurd (no x h) hs
    | back y' hy' t' =>
      rw [hy] at hy'
      cases hy'
      rw [line_back hy] at nd
      exact ih nd hu t'
/-- at the beginning, where none can go any more, the fewest are left -/
theorem Gre.least {m u : Nat} {a b : List Str} (h : Gre ps stay sv m a u b) (nd : (sv.take m ++ a).Nodup) (no : ∀ x, LooseIn ps b x → x ∈ stay u) {ds : List Deed} {fin : List Str} (w : Way ps stay sv u m a ds fin) : ∀ x ∈ b, x ∈ fin := by
  obtain ⟨ds', fin', w', s'⟩ := h.follow nd (Nat.le_refl _) w
  intro x hx
  refine s' x ?_
  cases w' with
  | done _ => exact hx
  | go y hy hs t => exact absurd (no y hy) hs
  | back y hy t =>
    have := t.le
    omega
end
/-! ### promises -/
end Lk
set_option maxRecDepth 100000
set_option maxHeartbeats 4000000
namespace Lk
open PySem PySem.Spec PyProof.Rows L2
/-! ### whether one can have come when so many had been served -/
section
variable {ps : List (Str × Str)} {stay stay' : Nat → List Str} {sv : List Str}
theorem Way.keepB {m0 m : Nat} {row fin : List Str} {ds : List Deed} {x : Str} (h : Way ps stay sv m0 m row ds fin) : (∀ k, m0 ≤ k → k ≤ m → x ∈ stay k) → x ∈ sv.take m ++ row → x ∈ sv.take m0 ++ fin := by
  induction h with
  | done _ => exact fun _ h => h
  | @go m row ds fin y h hs t ih =>
    intro hk hx
    refine ih hk ?_
    rcases List.mem_append.mp hx with z | z
    · exact List.mem_append_left _ z
    · refine List.mem_append_right _ (mem_rem.mpr ⟨z, fun e => ?_⟩)
      rw [← e] at hs
      exact hs (hk m t.le (Nat.le_refl _))
  | @back m row ds fin y h t ih =>
    intro hk hx
    rw [line_back h] at hx
    exact ih (fun k h1 h2 => hk k h1 (by omega)) hx
theorem Gre.keep {m m' : Nat} {a b : List Str} {x : Str} (h : Gre ps stay sv m a m' b) (hk : ∀ k, x ∈ stay k) (hx : x ∈ sv.take m ++ a) : x ∈ sv.take m' ++ b := by
  obtain ⟨ds, w⟩ := h.way
  exact w.keepB (fun k _ _ => hk k) hx
theorem Gre.change {m m' : Nat} {a b : List Str} (h : Gre ps stay sv m a m' b) : (∀ k x, m' ≤ k → x ∈ sv.take m ++ a → x ∉ stay k → x ∉ stay' k) → (∀ k x, m' < k → x ∈ stay k → x ∈ stay' k) → Gre ps stay' sv m a m' b := by
  induction h with
  | done _ _ => exact fun _ _ => .done _ _
  | @go m m' row row' y h hs t ih =>
    intro h1 h2
    refine .go y h (h1 m y t.le (List.mem_append_right _ h.mem) hs) (ih (fun k x hk hx => h1 k x hk ?_) h2)
    rcases List.mem_append.mp hx with z | z
    · exact List.mem_append_left _ z
    · exact List.mem_append_right _ (mem_rem.mp z).1
  | @back m m' row row' y h no t ih =>
    intro h1 h2
    have := t.le
    refine .back y h (fun x hx => h2 (m + 1) x (by omega) (no x hx)) (ih (fun k x hk hx => h1 k x hk ?_) h2)
    rw [line_back h]
    exact hx
end
section
variable {ps : List (Str × Str)} {olds gn st ins1 ins2 : List Str} {name : Str} {many : Nat}
end
end Lk
set_option maxRecDepth 100000
set_option maxHeartbeats 4000000
namespace Lk
open PySem PySem.Spec PyProof.Rows L2
/-! ### why one never comes -/
section
variable {ps : List (Str × Str)} {stay : Nat → List Str} {sv : List Str}
end
section
variable {ps : List (Str × Str)} {stay : Nat → List Str} {sv : List Str}
def behindL (line there : List Str) (who : Str) : List Str := (line.drop (line.idxOf who + 1)).filter fun x => decide (x ∈ there)
def betweenL (line there : List Str) (who : Str) (h : Nat) : List Str := ((line.take (line.idxOf who)).drop (h + 1)).filter fun x => decide (x ∈ there)
end
/-! ### promises -/
def reasonOf (ps : List (Str × Str)) (line : List Str) (many : Nat) (there : List Str) (who : Str) : Str × List Str :=
  match (behindL line there who).filter (frd ps who) with
  | f :: _ => ("friend", [f])
  | [] => match lastP (frd ps who) (line.take (line.idxOf who)) with
    | none => ("behind", (behindL line there who).take 1)
    | some h => ("between", (betweenL line there who h).take 1 ++ if h < many then (behindL line there who).take 1 else [])
/-- a reason: where it is, where its names are, who, the word, the names -/
abbrev LR := Addr × Addr × Str × Str × List Str
def ReasonAt (H : Hp) (q : LR) : Prop := TupAt H q.1 [.str q.2.2.1, .str q.2.2.2.1, .ref q.2.1] ∧ TupAt H q.2.1 (q.2.2.2.2.map V.str)
def refsR (rs : List LR) : List V := rs.map fun q => V.ref q.1
def ReasonsAt (H : Hp) (rs : List LR) : Prop := ∀ q ∈ rs, ReasonAt H q
theorem ReasonAt.same {H H' : Hp} {q : LR} (s : Same H H') (h : ReasonAt H q) : ReasonAt H' q := ⟨h.1.same s, h.2.same s⟩
theorem ReasonAt.oth {H H' : Hp} {b : Addr} {q : LR} (s : Oth b H H') (hb : IsBox H b) (h : ReasonAt H q) : ReasonAt H' q := ⟨h.1.oth s hb, h.2.oth s hb⟩
theorem ReasonAt.upd_ {H : Hp} {l : Addr} {ys : List V} {o' : HO} {q : LR} (h : ReasonAt H q) (hl : H l = some (.lst ys)) : ReasonAt (upd H l o') q := ⟨h.1.upd_ hl, h.2.upd_ hl⟩
/-- who is left, in the line's order -/
def leftL (ps : List (Str × Str)) (elders svd row : List Str) : List Str := (trace ps (stayF elders none) svd svd.length row).2.filter fun x => !decide (x ∈ elders)
/-- what is told of a line -/
def ToldAt (H : Hp) (T : Addr) (ps : List (Str × Str)) (elders svd row : List Str) : Prop :=
  (leftL ps elders svd row = [] ∧ ∃ (u : Addr) (ds : List LD), TupAt H T [.str "deeds", .ref u] ∧ H u = some (.lst (refsD ds)) ∧ DeedsAt H ds ∧ ds.map (·.2) = (trace ps (stayF elders none) svd svd.length row).1.reverse) ∨
  (leftL ps elders svd row ≠ [] ∧ ∃ (p : Addr) (rs : List LR), TupAt H T [.str "none", .ref p] ∧ H p = some (.lst (refsR rs)) ∧ ReasonsAt H rs ∧ rs.map (fun q => q.2.2) = (leftL ps elders svd row).map (fun x => (x, reasonOf ps (svd ++ row) svd.length (leftL ps elders svd row ++ elders) x)))
theorem ToldAt.same {H H' : Hp} {T : Addr} {ps : List (Str × Str)} {elders svd row : List Str} (s : Same H H') (h : ToldAt H T ps elders svd row) : ToldAt H' T ps elders svd row := by
  rcases h with ⟨h0, u, ds, h1, h2, h3, h4⟩ | ⟨h0, p, rs, h1, h2, h3, h4⟩
  · exact .inl ⟨h0, u, ds, h1.same s, s _ _ h2, h3.same s, h4⟩
  · exact .inr ⟨h0, p, rs, h1.same s, s _ _ h2, (fun q hq => (h3 q hq).same s), h4⟩
theorem ToldAt.oth {H H' : Hp} {b T : Addr} {ps : List (Str × Str)} {elders svd row : List Str} (s : Oth b H H') (hb : IsBox H b) (h : ToldAt H T ps elders svd row) : ToldAt H' T ps elders svd row := by
  rcases h with ⟨h0, u, ds, h1, h2, h3, h4⟩ | ⟨h0, p, rs, h1, h2, h3, h4⟩
  · exact .inl ⟨h0, u, ds, h1.oth s hb, s _ _ (hb.ne_refs (xs := ds.map (·.1)) (by rw [List.map_map]; exact h2)) h2, (fun q hq => (h3 q hq).oth s hb), h4⟩
  · exact .inr ⟨h0, p, rs, h1.oth s hb, s _ _ (hb.ne_refs (xs := rs.map (·.1)) (by rw [List.map_map]; exact h2)) h2, (fun q hq => (h3 q hq).oth s hb), h4⟩
end Lk
set_option maxRecDepth 100000
set_option maxHeartbeats 4000000
namespace Lk
open PySem PySem.Spec PyProof.Rows L2
/-! ### goings in any order -/
section
variable {ps : List (Str × Str)} {stay : Nat → List Str} {sv : List Str}
end
/-! ### lists of texts that aren't alike -/
section
variable {X : Cx}
end
/-! ### promises -/
end Lk
set_option maxRecDepth 100000
set_option maxHeartbeats 4000000
namespace Lk
open PySem PySem.Spec PyProof.Rows L2
/-! ### any list beside [] -/
section
variable {X : Cx}
end
/-! ### a reason as data -/
/-! ### what a reason says -/
def ReasonOk (ps : List (Str × Str)) (line : List Str) (many : Nat) (x w : Str) (os : List Str) : Prop :=
  (∃ f, w = "friend" ∧ os = [f] ∧ f ∈ line ∧ line.idxOf x < line.idxOf f ∧ frd ps x f = true) ∨
  (∃ z, w = "behind" ∧ os = [z] ∧ z ∈ line ∧ line.idxOf x < line.idxOf z ∧ lastP (frd ps x) (line.take (line.idxOf x)) = none) ∨
  (∃ h y, w = "between" ∧ lastP (frd ps x) (line.take (line.idxOf x)) = some h ∧ y ∈ line ∧ h < line.idxOf y ∧ line.idxOf y < line.idxOf x ∧ ((h < many ∧ ∃ z, os = [y, z] ∧ z ∈ line ∧ line.idxOf x < line.idxOf z) ∨ (¬ h < many ∧ os = [y])))
theorem ReasonOk.mem {ps : List (Str × Str)} {line : List Str} {many : Nat} {x w : Str} {os : List Str} (h : ReasonOk ps line many x w os) : ∀ y ∈ os, y ∈ line := by
  rcases h with ⟨f, _, rfl, h, _⟩ | ⟨z, _, rfl, h, _⟩ | ⟨h, y, _, _, hy, _, _, ⟨_, z, rfl, hz, _⟩ | ⟨_, rfl⟩⟩
  · intro y hy
    rw [List.mem_singleton.mp hy]
    exact h
  · intro y hy
    rw [List.mem_singleton.mp hy]
    exact h
  · intro u hu
    rcases List.mem_cons.mp hu with z' | z'
    · rw [z']
      exact hy
    · rw [List.mem_singleton.mp z']
      exact hz
  · intro u hu
    rw [List.mem_singleton.mp hu]
    exact hy
/-! ### the deeds told are a history -/
section
variable {ps : List (Str × Str)} {stay : Nat → List Str} {sv : List Str}
theorem Way.len {m0 m : Nat} {row fin : List Str} {ds : List Deed} (h : Way ps stay sv m0 m row ds fin) : (sv.take m ++ row).Nodup → ds.length + fin.length + 2 * m0 = row.length + 2 * m := by
  induction h with
  | done row => exact fun _ => by simp
  | @go m row ds fin x hx hs t ih =>
    intro nd
    have := ih (nd_rem nd)
    have rl := rem_len (nd_right nd) hx.mem
    rw [List.length_cons]
    omega
  | @back m row ds fin y hy t ih =>
    intro nd
    rw [line_back hy] at nd
    have := ih nd
    rw [List.length_cons] at this
    rw [List.length_cons]
    omega
end
/-! ### promises -/
theorem good_words : Good "friend" ∧ Good "behind" ∧ Good "between" := by
  refine ⟨?_, ?_, ?_⟩ <;> (show PyData.strOk _ = true; decide +kernel)
theorem ReasonOk.good {ps : List (Str × Str)} {line : List Str} {many : Nat} {x w : Str} {os : List Str} (h : ReasonOk ps line many x w os) : Good w := by
  rcases h with ⟨f, rfl, _⟩ | ⟨z, rfl, _⟩ | ⟨h, y, rfl, _⟩
  · exact good_words.1
  · exact good_words.2.1
  · exact good_words.2.2
end Lk
set_option maxRecDepth 100000
set_option maxHeartbeats 4000000
namespace Lk
open PySem PySem.Spec PyProof.Rows L2
/-! ### set(ns), ns a list of ints, some of them twice -/
section
variable {P : Program} {w : World} {A : Around} {E : Value → Shared → Prop} {s : Shared}
end
section
variable {X : Cx}
end
end Lk
set_option maxRecDepth 100000
set_option maxHeartbeats 4000000
namespace Lk
open PySem PySem.Spec PyProof.Rows L2
/-! ### how many ways are left, at most -/
/-! ### histories begun -/
structure WE where
  T : Addr
  d : Addr
  t : Addr
  ds : List LD
  here : List Str
  m : Nat
def EntAt (H : Hp) (e : WE) : Prop := TupAt H e.T [.ref e.d, .ref e.t, .int (e.m : Nat)] ∧ TupAt H e.d (refsD e.ds) ∧ DeedsAt H e.ds ∧ TupAt H e.t (e.here.map V.str)
def EntsAt (H : Hp) (es : List WE) : Prop := ∀ e ∈ es, EntAt H e
theorem EntAt.same {H H' : Hp} {e : WE} (s : Same H H') (h : EntAt H e) : EntAt H' e := ⟨h.1.same s, h.2.1.same s, h.2.2.1.same s, h.2.2.2.same s⟩
theorem EntsAt.same {H H' : Hp} {es : List WE} (s : Same H H') (h : EntsAt H es) : EntsAt H' es := fun e he => (h e he).same s
theorem EntAt.upd_ {H : Hp} {l : Addr} {ys : List V} {o' : HO} {e : WE} (h : EntAt H e) (hl : H l = some (.lst ys)) : EntAt (upd H l o') e :=
  ⟨h.1.upd_ hl, h.2.1.upd_ hl, fun q hq => (h.2.2.1 q hq).upd_ hl, h.2.2.2.upd_ hl⟩
/-- what of the line's history has been gone through -/
structure EntOk (ps : List (Str × Str)) (olds gn st : List Str) (k : Nat) (e : WE) : Prop where
  len : e.ds.length = k
  go : goD ps (e.ds.map (·.2)) (olds, []) olds = some (e.here, gn.take e.m)
  le : e.m ≤ gn.length
  sub : e.here.Sublist ((gn ++ st).drop e.m)
def leftN (gn st : List Str) (e : WE) : Nat := (gn ++ st).length - e.m - e.here.length
section
variable {ps : List (Str × Str)} {olds gn st : List Str} {k : Nat} {e : WE}
theorem take_line {m : Nat} (h : m ≤ gn.length) : (gn ++ st).take m = gn.take m := List.take_append_of_le_length h
theorem EntOk.new (h : EntOk ps olds gn st k e) (nd : (gn ++ st).Nodup) {x : Str} (hx : x ∈ (gn ++ st).drop e.m) (nx : x ∉ e.here) : x ∉ olds ++ comers (e.ds.map (·.2)) := fun z => by
  have pm := go_perm _ _ _ _ h.go
  have : x ∈ comers (e.ds.map (·.2)) ++ ([] ++ olds) := by
    rcases List.mem_append.mp z with u | u
    · exact List.mem_append_right _ (by simpa using u)
    · exact List.mem_append_left _ u
  rcases List.mem_append.mp (pm.mem_iff.mpr this) with u | u
  · have u' : x ∈ (gn ++ st).take e.m := by rw [take_line h.le]; exact u
    have nd' := nd
    rw [← List.take_append_drop e.m (gn ++ st)] at nd'
    exact (List.nodup_append.mp nd').2.2 x u' x hx rfl
  · exact nx u
/-- somebody more comes -/
theorem EntOk.comes (h : EntOk ps olds gn st k e) (nd : (gn ++ st).Nodup) {x : Str} (hx : x ∈ (gn ++ st).drop e.m) (nx : x ∉ e.here) {T d t a : Addr} (hs : (comeTo ps e.here x).Sublist ((gn ++ st).drop e.m)) : EntOk ps olds gn st (k + 1) ⟨T, d, t, e.ds ++ [((a, some x) : LD)], comeTo ps e.here x, e.m⟩ := by
  refine ⟨by rw [List.length_append, h.len]; rfl, ?_, h.le, hs⟩
  show goD ps ((e.ds ++ [((a, some x) : LD)]).map (·.2)) (olds, []) olds = some (comeTo ps e.here x, gn.take e.m)
  rw [List.map_append]
  show goD ps (e.ds.map (·.2) ++ [some x]) (olds, []) olds = _
  rw [goD_snoc, h.go]
  show (if x ∈ olds ++ comers (e.ds.map (·.2)) then none else some (comeTo ps e.here x, gn.take e.m)) = _
  rw [if_neg (h.new nd hx nx)]
/-- how many can come -/
theorem EntOk.few (h : EntOk ps olds gn st k e) (nd : (gn ++ st).Nodup) : (((gn ++ st).drop e.m).filter fun x => !decide (x ∈ e.here)).length = leftN gn st e := by
  have ndd := nd.sublist (List.drop_sublist e.m (gn ++ st))
  have e1 := sub_filter h.sub ndd
  have p := (List.filter_append_perm (fun x => decide (x ∈ e.here)) ((gn ++ st).drop e.m)).length_eq
  rw [← e1, List.length_append, List.length_drop] at p
  unfold leftN
  omega
end
/-! ### long lists -/
section
variable {J : It} {n : Nat} {G : Hp → Prop} {Y : Nat → Hp → V → Hp → Prop} {g : TG} {tt : TT} {te : TE} {vs : List Nat} {σ : L2.St} {H1 : Hp} {D : Addr} {Qd : Hp → Prop}
end
/-! ### promises -/
abbrev LW := Addr × List LD
def WaysAt (H : Hp) (ws : List LW) : Prop := ∀ q ∈ ws, TupAt H q.1 (refsD q.2) ∧ DeedsAt H q.2
theorem WaysAt.same {H H' : Hp} {ws : List LW} (s : Same H H') (h : WaysAt H ws) : WaysAt H' ws := fun q hq => ⟨(h q hq).1.same s, (h q hq).2.same s⟩
end Lk
set_option maxRecDepth 100000
set_option maxHeartbeats 4000000
namespace Lk
open PySem PySem.Spec PyProof.Rows L2
/-! ### ways as data -/
section
variable {K : PySem.W.Frag} {H : Hp}
end
end Lk
set_option maxRecDepth 100000
set_option maxHeartbeats 4000000
namespace Lk
open PySem PySem.Spec PyProof.Rows L2
/-! ### who was ever there -/
def BeenAt (H : Hp) (d : Addr) (met : List Str) : Prop := ∃ kvs, H d = some (.dK kvs) ∧ kvs.length ≤ met.length ∧ ∀ y, (valV kvs (.inr y)).isSome = decide (y ∈ met)
theorem BeenAt.same {H H' : Hp} {d : Addr} {met : List Str} (s : Same H H') (h : BeenAt H d met) : BeenAt H' d met := by
  obtain ⟨kvs, h1, h2, h3⟩ := h
  exact ⟨kvs, s _ _ h1, h2, h3⟩
/-! ### promises -/
/-! ### one more is served, one more comes -/
/-! ### two tuples of texts -/
/-- a history told, or none -/
def TellAt (H : Hp) (T : Addr) (ps : List (Str × Str)) (olds gn st : List Str) : Prop :=
  (∃ (u : Addr) (ds : List LD), TupAt H T [.str "deeds", .ref u] ∧ H u = some (.lst (refsD ds)) ∧ DeedsAt H ds ∧ goD ps (ds.map (·.2)) (olds, []) olds = some (st, gn) ∧ olds.length + ds.length ≤ st.length + 2 * gn.length) ∨
  (∃ (p : Addr), TupAt H T [.str "none", .ref p])
theorem TellAt.same {H H' : Hp} {T : Addr} {ps : List (Str × Str)} {olds gn st : List Str} (s : Same H H') (h : TellAt H T ps olds gn st) : TellAt H' T ps olds gn st := by
  rcases h with ⟨u, ds, h1, h2, h3, h4⟩ | ⟨p, h1⟩
  · exact .inl ⟨u, ds, h1.same s, s _ _ h2, h3.same s, h4⟩
  · exact .inr ⟨p, h1.same s⟩
end Lk
set_option maxRecDepth 100000
set_option maxHeartbeats 4000000
namespace Lk
open PySem PySem.Spec PyProof.Rows L2
/-! ### promises -/
end Lk
set_option maxRecDepth 100000
set_option maxHeartbeats 4000000
namespace Lk
open PySem PySem.Spec PyProof.Rows L2
/-! ### all are served, each one alone in the row -/
section
variable {ps : List (Str × Str)} {pool : List Str}
end
end Lk
set_option maxRecDepth 100000
set_option maxHeartbeats 4000000
namespace Lk
open PySem PySem.Spec PyProof.Rows L2
/-! ### pairs of friends, each once -/
def OfN (pool : List Str) (ps : List (Str × Str)) (i j : Nat) : Prop := ps.Nodup ∧ ∀ p ∈ ps, ∃ a c m n, c < a ∧ (a < i ∨ a = i ∧ c < j) ∧ pool[a]? = some m ∧ pool[c]? = some n ∧ p = (lmin m n, lmax m n)
theorem OfN.nil {pool : List Str} {i j : Nat} : OfN pool [] i j := ⟨List.nodup_nil, fun _ h => nomatch h⟩
theorem OfN.step {pool : List Str} {ps : List (Str × Str)} {i j : Nat} (h : OfN pool ps i j) : OfN pool ps i (j + 1) := ⟨h.1, fun p hp => by
  obtain ⟨a, c, m, n, h1, h2, h3⟩ := h.2 p hp
  exact ⟨a, c, m, n, h1, by omega, h3⟩⟩
theorem OfN.next {pool : List Str} {ps : List (Str × Str)} {i : Nat} (h : OfN pool ps i i) : OfN pool ps (i + 1) 0 := ⟨h.1, fun p hp => by
  obtain ⟨a, c, m, n, h1, h2, h3⟩ := h.2 p hp
  exact ⟨a, c, m, n, h1, by omega, h3⟩⟩
theorem mm_cases (m n : Str) : (lmin m n = m ∧ lmax m n = n) ∨ (lmin m n = n ∧ lmax m n = m) := by
  unfold lmin lmax
  by_cases h : n.cps.toList < m.cps.toList
  · by_cases g : m.cps.toList < n.cps.toList
    · exact absurd (List.lt_trans h g) (List.lt_irrefl _)
    · have e : ¬ m.cps.toList < n.cps.toList := g
      rw [if_pos h]
      by_cases g2 : m.cps.toList < n.cps.toList
      · exact absurd g2 g
      · refine .inr ⟨rfl, ?_⟩
        rw [if_neg g2]
  · rw [if_neg h]
    by_cases g : m.cps.toList < n.cps.toList
    · exact .inl ⟨rfl, if_pos g⟩
    · have e : m = n := by
        have h1 : m.cps.toList ≤ n.cps.toList := List.not_lt.mp h
        have h2 : n.cps.toList ≤ m.cps.toList := List.not_lt.mp g
        exact str_ext (List.le_antisymm h1 h2)
      subst e
      exact .inl ⟨rfl, if_neg g⟩
theorem OfN.put {pool : List Str} {ps : List (Str × Str)} {i j : Nat} {m n : Str} (h : OfN pool ps i j) (nd : pool.Nodup) (hj : j < i) (hm : pool[i]? = some m) (hn : pool[j]? = some n) : OfN pool (ps ++ [(lmin m n, lmax m n)]) i (j + 1) := by
  refine ⟨List.nodup_append.mpr ⟨h.1, List.pairwise_singleton _ _, fun p hp q hq e => ?_⟩, fun p hp => ?_⟩
  · rw [List.mem_singleton.mp hq] at e
    obtain ⟨a, c, m', n', h1, h2, h3, h4, h5⟩ := h.2 p hp
    rw [e] at h5
    have e1 := congrArg Prod.fst h5
    have e2 := congrArg Prod.snd h5
    simp only at e1 e2
    have key : (m = m' ∧ n = n') ∨ (m = n' ∧ n = m') := by
      rcases mm_cases m n with ⟨k1, k2⟩ | ⟨k1, k2⟩ <;> rcases mm_cases m' n' with ⟨k3, k4⟩ | ⟨k3, k4⟩ <;> rw [k1, k3] at e1 <;> rw [k2, k4] at e2
      · exact .inl ⟨e1, e2⟩
      · exact .inr ⟨e1, e2⟩
      · exact .inr ⟨e2, e1⟩
      · exact .inl ⟨e2, e1⟩
    rcases key with ⟨rfl, rfl⟩ | ⟨rfl, rfl⟩
    · have := nd_ix nd hm h3
      have := nd_ix nd hn h4
      omega
    · have := nd_ix nd hm h4
      have := nd_ix nd hn h3
      omega
  · rcases List.mem_append.mp hp with z | z
    · exact h.step.2 p z
    · exact ⟨i, j, m, n, hj, by omega, hm, hn, List.mem_singleton.mp z⟩
theorem OfN.of {pool : List Str} {ps : List (Str × Str)} {i j : Nat} (h : OfN pool ps i j) (nd : pool.Nodup) : OfPool pool ps := fun p hp => by
  obtain ⟨a, c, m, n, h1, h2, h3, h4, h5⟩ := h.2 p hp
  refine ⟨m, n, List.mem_of_getElem? h3, List.mem_of_getElem? h4, fun z => ?_, h5⟩
  rw [← z] at h4
  have := nd_ix nd h3 h4
  omega
/-! ### words with a sign between, and back -/
/-! ### pairs of texts, one below the other -/
section
variable {X : Cx}
end
/-! ### a def of one argument, by its name too -/
section
variable {X : Cx} {k n : Nat} {x q : Str} {sp : Sp} {p pos : Pos} {kws : List Keyword} {tk : TA}
end
section
variable {X : Cx}
end
/-! ### promises -/
/-- pairs as tuples that are known to be tuples -/
def PairsT (H : Hp) (qs : List B3) : Prop := ∀ q ∈ qs, TupAt H q.1 [.str q.2.1, .str q.2.2]
theorem PairsT.same {H H' : Hp} {qs : List B3} (s : Same H H') (h : PairsT H qs) : PairsT H' qs := fun q hq => (h q hq).same s
end Lk
set_option maxRecDepth 100000
set_option maxHeartbeats 4000000
namespace Lk
open PySem PySem.Spec PyProof.Rows L2
/-! ### all orders, one behind the other -/
section
variable {ks : List Str} {bar : Str → Str → Bool} {k i r : Nat} {p q : Str → Bool} {x : Str}
def allN (ks : List Str) (bar : Str → Str → Bool) : Nat → (Str → Bool) → List (List Str)
  | 0, _ => [[]]
  | k + 1, p => (nxtL ks bar p).flatMap fun x => (allN ks bar k fun z => p z || z == x).map (x :: ·)
theorem flatMap_congr_ {α β : Type} {f g : α → List β} : ∀ {l : List α}, (∀ x ∈ l, f x = g x) → l.flatMap f = l.flatMap g
  | [], _ => rfl
  | x :: l, h => by
    rw [List.flatMap_cons, List.flatMap_cons, h x List.mem_cons_self, flatMap_congr_ fun y hy => h y (List.mem_cons_of_mem _ hy)]
theorem allN_congr : ∀ (k : Nat) {p q : Str → Bool}, (∀ x ∈ ks, p x = q x) → allN ks bar k p = allN ks bar k q
  | 0, _, _, _ => rfl
  | k + 1, p, q, h => by
    unfold allN
    rw [nxtL_congr h]
    refine flatMap_congr_ fun x _ => ?_
    rw [allN_congr k fun z hz => by rw [h z hz]]
theorem allN_len : ∀ (k : Nat) (p : Str → Bool), (allN ks bar k p).length = waysN ks bar k p
  | 0, _ => rfl
  | k + 1, p => by
    unfold allN waysN
    rw [List.length_flatMap]
    congr 1
    refine List.map_congr_left fun x _ => ?_
    rw [List.length_map, allN_len k]
def pickL (f : Str → Nat) : List Str → Nat → Option (Str × Nat)
  | [], _ => none
  | x :: l, i => if i < f x then some (x, i) else pickL f l (i - f x)
theorem pick_has {f : Str → Nat} : ∀ {l : List Str} {i : Nat}, i < (l.map f).sum → ∃ x r, pickL f l i = some (x, r)
  | [], i, h => by simp at h
  | x :: l, i, h => by
    unfold pickL
    split
    · exact ⟨_, _, rfl⟩
    · rw [List.map_cons, List.sum_cons] at h
      exact pick_has (by omega)
theorem pick_spec {f : Str → Nat} : ∀ {l : List Str} {i : Nat} {x : Str} {r : Nat}, pickL f l i = some (x, r) → ∃ l1 l2, l = l1 ++ x :: l2 ∧ i = (l1.map f).sum + r ∧ r < f x
  | [], i, x, r, h => nomatch h
  | y :: l, i, x, r, h => by
    unfold pickL at h
    split at h
    · rename_i c
      cases h
      exact ⟨[], l, rfl, by simp, c⟩
    · rename_i c
      obtain ⟨l1, l2, e1, e2, e3⟩ := pick_spec h
      refine ⟨y :: l1, l2, by rw [e1]; rfl, ?_, e3⟩
      rw [List.map_cons, List.sum_cons]
      omega
theorem flat_at {g : Str → List (List Str)} {l1 l2 : List Str} (h : r < (g x).length) : ((l1 ++ x :: l2).flatMap g)[(l1.map fun y => (g y).length).sum + r]? = (g x)[r]? := by
  rw [List.flatMap_append, List.flatMap_cons, List.getElem?_append_right (by rw [List.length_flatMap]; omega), List.length_flatMap, Nat.add_sub_cancel_left, List.getElem?_append_left h]
theorem nth_step (h : pickL (fun x => waysN ks bar k fun z => p z || z == x) (nxtL ks bar p) i = some (x, r)) : (allN ks bar (k + 1) p)[i]? = ((allN ks bar k fun z => p z || z == x)[r]?).map (x :: ·) := by
  obtain ⟨l1, l2, e1, e2, e3⟩ := pick_spec h
  have e0 : allN ks bar (k + 1) p = (nxtL ks bar p).flatMap fun x => (allN ks bar k fun z => p z || z == x).map (x :: ·) := rfl
  rw [e0, e1, e2]
  have e : (l1.map fun x => waysN ks bar k fun z => p z || z == x) = l1.map fun y => (((allN ks bar k fun z => p z || z == y).map (y :: ·))).length := List.map_congr_left fun y _ => by rw [List.length_map, allN_len]
  rw [e, flat_at (g := fun x => (allN ks bar k fun z => p z || z == x).map (x :: ·)) (by rw [List.length_map, allN_len]; exact e3), List.getElem?_map]
/-- they are lists of unlike people, who keep what bars -/
def KeepsL (ks : List Str) (bar : Str → Str → Bool) (p : Str → Bool) (s : List Str) : Prop := s.Nodup ∧ (∀ x ∈ s, x ∈ ks ∧ p x = false) ∧ ∀ x ∈ s, ∀ y ∈ ks, bar y x = true → p y = true ∨ (y ∈ s ∧ s.idxOf y < s.idxOf x)
theorem allN_keeps : ∀ (k : Nat) {p : Str → Bool} {s : List Str}, s ∈ allN ks bar k p → s.length = k ∧ KeepsL ks bar p s
  | 0, p, s, h => by
    unfold allN at h
    rw [List.mem_singleton.mp h]
    exact ⟨rfl, List.nodup_nil, (fun _ h => nomatch h), fun _ h => nomatch h⟩
  | k + 1, p, s, h => by
    unfold allN at h
    obtain ⟨x, hx, hs⟩ := List.mem_flatMap.mp h
    obtain ⟨t, ht, rfl⟩ := List.mem_map.mp hs
    obtain ⟨l, n, m, b⟩ := allN_keeps k ht
    obtain ⟨x1, x2, x3⟩ := nxtL_mem.mp hx
    have nx : x ∉ t := fun z => by
      have := (m x z).2
      simp at this
    refine ⟨by rw [List.length_cons, l], List.nodup_cons.mpr ⟨nx, n⟩, fun y hy => ?_, fun y hy z hz hb => ?_⟩
    · rcases List.mem_cons.mp hy with e | hy
      · rw [e]; exact ⟨x1, x2⟩
      · obtain ⟨m1, m2⟩ := m y hy
        rw [Bool.or_eq_false_iff] at m2
        exact ⟨m1, m2.1⟩
    · rcases List.mem_cons.mp hy with e | hy
      · rw [e] at hb
        exact .inl (x3 z hz hb)
      · have ne : ¬ x = y := fun e => nx (e ▸ hy)
        rcases b y hy z hz hb with c | ⟨c1, c2⟩
        · rw [Bool.or_eq_true] at c
          rcases c with c | c
          · exact .inl c
          · have e : z = x := by simpa using c
            refine .inr ⟨by rw [e]; exact List.mem_cons_self, ?_⟩
            rw [e, List.idxOf_cons_self, List.idxOf_cons, beq_false_of_ne ne]
            exact Nat.succ_pos _
        · have ne2 : ¬ x = z := fun e => nx (e ▸ c1)
          refine .inr ⟨List.mem_cons_of_mem _ c1, ?_⟩
          rw [List.idxOf_cons, List.idxOf_cons, beq_false_of_ne ne, beq_false_of_ne ne2]
          exact Nat.succ_lt_succ c2
/-! ### the number of each -/
end
/-! ### lists of texts, one below the other -/
section
variable {X : Cx}
end
section
variable {ks : List Str} {bar : Str → Str → Bool}
end
end Lk
set_option maxRecDepth 100000
set_option maxHeartbeats 4000000
namespace Lk
open PySem PySem.Spec PyProof.Rows L2
/-! ### len(set(xs)), xs a list of texts, some of them twice -/
section
variable {P : Program} {w : World} {A : Around} {E : Value → Shared → Prop} {s : Shared}
end
section
variable {X : Cx}
end
/-! ### a row of which nobody is served yet -/
/-! ### papers that show nothing -/
/-- a text or a pair: no reason -/
def NoClause (H : Hp) (v : V) : Prop := (∃ x : Str, v = .str x) ∨ ∃ (t : Addr) (x y : Str), v = .ref t ∧ H t = some (.tup [.str x, .str y])
theorem NoClause.same {H H' : Hp} {v : V} (s : Same H H') (h : NoClause H v) : NoClause H' v := h.elim .inl fun ⟨t, x, y, e, h⟩ => .inr ⟨t, x, y, e, s _ _ h⟩
end Lk
set_option maxRecDepth 100000
set_option maxHeartbeats 4000000
namespace Lk
open PySem PySem.Spec PyProof.Rows L2
/-! ### led back, and what was done on the way -/
section
variable {ps : List (Str × Str)} {olds gn st ins1 ins2 : List Str} {name : Str} {many : Nat} {ds1 ds2 : List Deed}
theorem Way.coming {stay : Nat → List Str} {sv : List Str} {m0 m : Nat} {row fin : List Str} {ds : List Deed} (h : Way ps stay sv m0 m row ds fin) {x : Str} : some x ∈ ds → x ∈ sv.take m ++ row := by
  induction h with
  | done row => exact fun h => nomatch h
  | @go m row ds fin y hy hs t ih =>
    intro hm
    rcases List.mem_cons.mp hm with z | z
    · cases z
      exact List.mem_append_right _ hy.mem
    · rcases List.mem_append.mp (ih z) with w | w
      · exact List.mem_append_left _ w
      · exact List.mem_append_right _ (mem_rem.mp w).1
  | @back m row ds fin y h t ih =>
    intro hm
    rw [line_back h]
    rcases List.mem_cons.mp hm with z | z
    · cases z
    · exact ih z
end
/-- histories in a list -/
abbrev LH := Addr × List LD
def HistsAt (ps : List (Str × Str)) (olds gn st : List Str) (H : Hp) (ws : List LH) : Prop := ∀ q ∈ ws, H q.1 = some (.lst (refsD q.2)) ∧ DeedsAt H q.2 ∧ goD ps (q.2.map (·.2)) (olds, []) olds = some (st, gn)
theorem HistsAt.oth {ps : List (Str × Str)} {olds gn st : List Str} {H H' : Hp} {b : Addr} {ws : List LH} (o : Oth b H H') (hb : IsBox H b) (h : HistsAt ps olds gn st H ws) : HistsAt ps olds gn st H' ws := fun q hq => by
  obtain ⟨h1, h2, h3⟩ := h q hq
  exact ⟨o _ _ (hb.ne_refs (xs := q.2.map (·.1)) (by rw [List.map_map]; exact h1)) h1, fun d hd => (h2 d hd).oth o hb, h3⟩
theorem HistsAt.same {ps : List (Str × Str)} {olds gn st : List Str} {H H' : Hp} {ws : List LH} (s : Same H H') (h : HistsAt ps olds gn st H ws) : HistsAt ps olds gn st H' ws := fun q hq => by
  obtain ⟨h1, h2, h3⟩ := h q hq
  exact ⟨s _ _ h1, fun d hd => (h2 d hd).same s, h3⟩
end Lk
set_option maxRecDepth 100000
set_option maxHeartbeats 4000000
namespace Lk
open PySem PySem.Spec PyProof.Rows L2
/-! ### right papers show that nobody comes there -/
theorem ReasonOk.nd {ps : List (Str × Str)} {line : List Str} {many : Nat} {x w : Str} {os : List Str} (h : ReasonOk ps line many x w os) : os.Nodup ∧ os.length ≤ 2 := by
  rcases h with ⟨f, _, rfl, _⟩ | ⟨z, _, rfl, _⟩ | ⟨h, y, _, _, _, _, ly, ⟨_, z, rfl, _, lz⟩ | ⟨_, rfl⟩⟩
  · simp
  · simp
  · refine ⟨List.nodup_cons.mpr ⟨fun z => ?_, List.nodup_cons.mpr ⟨(fun z => nomatch z), List.nodup_nil⟩⟩, Nat.le_refl _⟩
    rw [List.mem_singleton.mp z] at ly
    omega
  · simp
end Lk
set_option maxRecDepth 100000
set_option maxHeartbeats 4000000
namespace Lk
open PySem PySem.Spec PyProof.Rows L2
/-! ### calls that may raise, in a try -/
section
variable {X : Cx} {CX : CXT} {k n m : Nat} {f : Addr} {fd : FuncData} {ps ks : List Str} {sp : Sp} {E : L2.St → XK} {x : Str} {p pos : Pos} {kws : List Keyword} {tk t : TA} {g : List Value → List Value → List Value} {gV : List V → List V → List V} {e : Expr} {es : List Expr}
theorem fn_ranX {pins : List (Addr × Obj)} {σ : L2.St} {H : Hp} {s : Shared} {Q : VK} {ar : Args} {us : List Value} {vs : List V} (F : FnOk X.prog X.w X.K X.mg X.base CX k f fd ps sp) (z : Room k X.A) (hx : PassesAt CX X σ (E σ))
    (I : Inv X pins σ H s) (bd : BindsTo s fd ar (ps.zip us)) (rv : Vals vs us) (h : sp vs H Q (E σ)) : wpAny (model X.prog X.w) X.A (call (.ref f) ar.pos ar.kw) (EP X pins σ Q) X.xe s := by
  refine wpAny_call (codeAny_mono (F.run X.A X.stack s H ar us vs Q (E σ) z I.env0 bd rv h) ?_)
  rintro (e | fl) s2 ends
  · exact hx pins H s e s2 I ends
  cases fl with
  | ret u => exact I.after ends
  | next => exact (ends : False).elim
  | brk => exact (ends : False).elim
  | cont => exact (ends : False).elim
end
section
variable {X : Cx} {k m n : Nat} {x kw : Str} {ps : List Str} {sp : Sp} {p pos : Pos} {e : Expr} {es : List Expr} {t tk : TA} {kws : List Keyword} {W : WX}
end
/-! ### the class of a bad deed -/
def clsFn (s : Stmt) (i : Nat) : Stmt := match s with
  | .ClassDef (body := b) .. => b.getD i (.Pass ⟨0, 0, 0, 0⟩)
  | _ => .Pass ⟨0, 0, 0, 0⟩
theorem FnOk.or {P : Program} {w : World} {K : PySem.W.Frag} {mg : Str → Option Value} {base : Heap} {CX : CXT} {k : Nat} {f : Addr} {fd : FuncData} {ps : List Str} {s1 s2 : Sp} (F1 : FnOk P w K mg base CX k f fd ps s1) (F2 : FnOk P w K mg base CX k f fd ps s2) : FnOk P w K mg base CX k f fd ps (fun vs H Q E => s1 vs H Q E ∨ s2 vs H Q E) :=
  ⟨fun vs H Q E h => h.elim (F1.len vs H Q E) (F2.len vs H Q E), fun A out s H ar us vs Q E z e b v m => m.elim (F1.run A out s H ar us vs Q E z e b v) (F2.run A out s H ar us vs Q E z e b v)⟩
end Lk
set_option maxRecDepth 100000
set_option maxHeartbeats 4000000
/-! own exception classes right over a built-in one, with an __init__ of their own -/
namespace Lk
open PySem PySem.Spec PySem.W PySem.Calls PyProof.Rows PySem.HandSPX Builtin Builtin.ObjectAttr
abbrev mroB (T : String) : List Value := [.type T, .type "Exception", .type "BaseException", .type "object"]
/-- what the model says of the built-in class T -/
structure BaseK (T newId initId : String) : Prop where
  F : ExcBaseFacts T newId initId (mroB T)
  pass : ∀ self, refuseLoop self "__setattr__" (mroB T) = pure ()
  ty : typeOf (.type T) = pure (.type "type")
  stub : Manifest.isStub T = false
  hand : PySem.W.handedIn (.builtin initId) = true
theorem base_RE : BaseK "RuntimeError" "RuntimeError.__new__" "RuntimeError.__init__" := ⟨F.excBase_RuntimeError, F.store_RuntimeError.passes, by kernel_rfl, by decide +kernel, by decide +kernel⟩
theorem base_LE : BaseK "LookupError" "LookupError.__new__" "LookupError.__init__" := ⟨F.excBase_LookupError, F.store_LookupError.passes, by kernel_rfl, by decide +kernel, by decide +kernel⟩
section
variable {prog : Program} {w : World} {A : Around} {E : Value → Shared → Prop} {R : Result → Shared → Prop} {hp : Heap} {g : Array GenState} {d : Drawn} {t : Nat} {os : OsState} {T newId initId : String} {K : Frag} {name : Str} {tk : Tok} {v : Value} {x C : Addr} {fv : Array Value} {cd : ClassData}
theorem has_object (T : String) (C : Addr) : (Value.ref C :: mroB T).contains (.type "object") = true := by
  simp [mroB]
theorem osa_first (BK : BaseK T newId initId) (kin : K.In hp) (hx : hp.get? x = some { cls := .ref C, data := .fields fv }) (hcd : clsIn K C = some cd) (hm : cd.mro = .ref C :: mroB T) (hh : cd.hasDict = true) (ha : findIn K (.ref C) name = some none)
    (q : ∀ h' tk' dx, (∀ b o, b ≠ x → hp.get? b = some o → h'.get? b = some o) → hp.objs.size ≤ dx → dx ≠ x → h'.get? x = some { cls := .ref C, dict := some dx, data := .fields fv } →
      h'.Ns1 dx (fun y => if y = name then some v else none) → R (.ok (.ret .none)) ⟨h', g, d, tk', os⟩) :
    codeAny (model prog w) A (.call (.builtin "object.__setattr__") ⟨[.ref x, .str name tk, v], []⟩) R ⟨hp, g, d, t, os⟩ := by
  have J : InstAt hp x { cls := .ref C, data := .fields fv } C none := ⟨hx, rfl, rfl, trivial⟩
  have S := F.store_object
  have xs : x ≠ hp.objs.size := Nat.ne_of_lt (Heap.lt_size hx)
  have sub : Looks (model prog w) hp (isInstance (.ref x) (.type "object")) true := J.type.andThen (looks_mroIn kin (by unfold mroIn; rw [hcd, Option.bind_some, hm, if_neg (by simp), has_object]))
  refine codeAny_call_builtin S.slot.plain S.entry (@check_slot (model prog w) _ _ ⟨hp, g, d, t, os⟩ "object.__setattr__" "object" "__setattr__" (.ref x) [.str name tk, v] [] _ S.kind S.split sub (S.args (.ref x) (.str name tk) v) ?_)
  have Lm : Looks (model prog w) hp (mroOf (.ref C)) cd.mro := (looks_clsIn kin hcd).andThen .now
  have Lt : Looks (model prog w) hp (storeTaker? none) none := .now
  have Lc : Looks (model prog w) hp (classData C) cd := looks_clsIn kin hcd
  rw [osa_eq, refuse_eq]
  refine wpAny_bind (wpAny_bind (J.type.at (wpAny_bind (Lm.at ?_))))
  rw [hm, refuseLoop_ref, BK.pass]
  refine wpAny_pure (wpAny_bind (J.type.at (wpAny_bind ((looks_findIn kin ha).at (wpAny_bind (Lt.at ?_))))))
  show wpAny _ _ (storeInOwnDict (.ref x) (.ref C) (.str name tk) name v false) _ _ _
  obtain ⟨nm, bs, mro, ns, qn, hd, sn, sb, ab, col, del⟩ := cd
  dsimp only at hh
  subst hh
  unfold storeInOwnDict ownDictForStores
  repeat (first | with_reducible refine store_in_new ?_ ?_ | with_reducible refine wpAny_loadPart_at hx ?_ | with_reducible refine Lc.at ?_ | wp_step)
  · exact ⟨_, #[], _, (Heap.get?_update_ne _ _ _ _ xs.symm).trans (Heap.get?_push_at rfl rfl), rfl, fun e he => absurd he (by simp), fun _ => rfl⟩
  · intro h' tk' hn' hs
    have hx1 : (hp.push { cls := .type "dict", data := .dict #[] }).get? x = some { cls := .ref C, data := .fields fv } := Heap.get?_push_of_some _ hx
    refine q h' tk' hp.objs.size (fun b o hb ho => ?_) (Nat.le_refl _) xs.symm ?_ hn'
    · exact (hs.2 b (Nat.ne_of_lt (Heap.lt_size ho))).trans ((Heap.get?_update_ne _ _ _ _ hb).trans (Heap.get?_push_of_some _ ho))
    · exact (hs.2 x xs).trans (Heap.get?_update_self _ hx1 rfl)
theorem osa_next {dx : Addr} {m0 : Str → Option Value} {nl : List Str} (BK : BaseK T newId initId) (kin : K.In hp) (hx : hp.get? x = some { cls := .ref C, dict := some dx, data := .fields fv }) (hns : hp.Ns1 dx m0) (hw : Within m0 nl) (hz : nl.length ≤ 1000)
    (hcd : clsIn K C = some cd) (hm : cd.mro = .ref C :: mroB T) (hh : cd.hasDict = true) (ha : findIn K (.ref C) name = some none)
    (q : ∀ h' tk', (∀ b o, b ≠ dx → hp.get? b = some o → h'.get? b = some o) → h'.Ns1 dx (fun y => if y = name then some v else m0 y) → R (.ok (.ret .none)) ⟨h', g, d, tk', os⟩) :
    codeAny (model prog w) A (.call (.builtin "object.__setattr__") ⟨[.ref x, .str name tk, v], []⟩) R ⟨hp, g, d, t, os⟩ := by
  obtain ⟨oD, esD, epD, hoD, hdD, _⟩ := hns.count hw
  have J : InstAt hp x { cls := .ref C, dict := some dx, data := .fields fv } C (some oD) := ⟨hx, rfl, rfl, hoD⟩
  have S := F.store_object
  have sub : Looks (model prog w) hp (isInstance (.ref x) (.type "object")) true := J.type.andThen (looks_mroIn kin (by unfold mroIn; rw [hcd, Option.bind_some, hm, if_neg (by simp), has_object]))
  refine codeAny_call_builtin S.slot.plain S.entry (@check_slot (model prog w) _ _ ⟨hp, g, d, t, os⟩ "object.__setattr__" "object" "__setattr__" (.ref x) [.str name tk, v] [] _ S.kind S.split sub (S.args (.ref x) (.str name tk) v) ?_)
  have Lm : Looks (model prog w) hp (mroOf (.ref C)) cd.mro := (looks_clsIn kin hcd).andThen .now
  have Lt : Looks (model prog w) hp (storeTaker? none) none := .now
  have Lc : Looks (model prog w) hp (classData C) cd := looks_clsIn kin hcd
  rw [osa_eq, refuse_eq]
  refine wpAny_bind (wpAny_bind (J.type.at (wpAny_bind (Lm.at ?_))))
  rw [hm, refuseLoop_ref, BK.pass]
  refine wpAny_pure (wpAny_bind (J.type.at (wpAny_bind ((looks_findIn kin ha).at (wpAny_bind (Lt.at ?_))))))
  show wpAny _ _ (storeInOwnDict (.ref x) (.ref C) (.str name tk) name v false) _ _ _
  obtain ⟨nm, bs, mro, ns, qn, hd, sn, sb, ab, col, del⟩ := cd
  dsimp only at hh
  subst hh
  unfold storeInOwnDict ownDictForStores
  repeat (first | with_reducible refine PySem.OEX.store_in_old hns hw hz ?_ | with_reducible refine wpAny_loadPart_at hx ?_ | with_reducible refine Lc.at ?_ | wp_step)
  intro h' tk' hn' hs
  exact q h' tk' (fun b o hb ho => (hs.2 b hb).trans ho) hn'
end
end Lk

namespace Lk
open PySem PySem.Spec PyProof.Rows L2
/-- what the written part says of such a class -/
structure OwnC (K : PySem.W.Frag) (T newId : String) (C : Addr) : Prop where
  cls : ∃ nm q N bs sn sub ab col dd k0 k1 k2 k3 k5, K.lookup C = some (excClassObj nm q C N bs (mroB T) true sn sub ab col dd k0 k1 k2 k3 k5 newId)
  sa : PySem.W.findIn K (.ref C) "__setattr__" = some (some (.builtin "object.__setattr__"))
  exC : PySem.W.subIn K (.ref C) (.type "BaseException") = some true
  tyC : PySem.W.typeIn K (.ref C) = some (.type "type")
  kC : PySem.W.keepIn K (.ref C) = true
section
variable {X : Cx} {pins : List (Addr × Obj)} {σ : L2.St} {H : Hp} {s : Shared} {a C dx : Addr} {f : Str} {y : V} {u : Value} {fs : List (Str × V)} {Q : Unit → Shared → Prop} {E : Value → Shared → Prop} {A : Around} {T newId initId : String}
/-- self.f = y, the first field -/
theorem put_first (BK : BaseK T newId initId) (O : OwnC X.K T newId C) (I : Inv X pins σ H s) (e : H a = some (exo a C none)) (hno : PySem.W.findIn X.K (.ref C) f = some none) (ry : RelV y u)
    (q : ∀ dx s', H dx = none → dx ≠ a → Inv X pins σ (upd (upd H dx (exd dx [(f, y)])) a (exo a C (some dx))) s' → Q () s') : wpAny (model X.prog X.w) A (setAttr (.ref a) f u) Q E s := by
  obtain ⟨nm, qn, N, bs, sn, sub, ab, col, dd, k0, k1, k2, k3, k5, hC⟩ := O.cls
  have hcl : PySem.W.clsIn X.K C = some { name := nm, bases := bs, mro := .ref C :: mroB T, ns := N, qualname := qn, hasDict := true, slotNames := sn, subclasses := sub, abstract := ab, collection := col, hasDel := false } := by unfold PySem.W.clsIn; rw [hC] <;> rfl
  obtain ⟨t1, ho⟩ := exo_at I.hok e
  obtain ⟨hp, g, d, t, os⟩ := s
  refine PySem.W.set_plain I.kIn (ox := { cls := .ref C, dict := none, data := .fields #[.ref t1, .none, .none, .none, .bool false, .none] }) (od := none) ⟨ho, rfl, rfl, trivial⟩ O.sa ?_
  refine osa_first BK I.kIn ho hcl rfl rfl hno (fun h' tk' dx k dn dne hx hn => ?_)
  have hnd : H dx = none := I.hok.fresh dn
  have ned : ∀ {b : Addr} {o : Obj}, hp.get? b = some o → b ≠ dx := fun {b o} z => Nat.ne_of_lt (Nat.lt_of_lt_of_le (Heap.lt_size z) dn)
  have nea : ∀ {b : Addr}, H b = none → b ≠ a := fun {b} n z => by
    subst z
    rw [e] at n
    cases n
  have off : ∀ {b : Addr} {o : HO}, H b = some o → b ≠ a → upd (upd H dx (exd dx [(f, y)])) a (exo a C (some dx)) b = some o := fun {b o} z n => by
    rw [upd_ne n, upd_ne (ne_of_none z hnd)]
    exact z
  refine q dx _ hnd dne (I.un (t' := tk') (H' := upd (upd H dx (exd dx [(f, y)])) a (exo a C (some dx))) (h' := h') ⟨fun b o z n _ _ => k b o (nea n) z, fun b o z n _ _ => ⟨o.slots, k b o (nea n) z⟩, fun b o z n _ => ?_, fun b o z _ => ?_,
    fun b xs z => off z (at_ne e z exo_tup), fun b o v z => off z (at_ne e z exo_frz), fun b ps z => ⟨#[], by rw [off z (at_ne e z exo_tbl)]; simp⟩⟩ fun b o z => ?_)
  · rw [upd_ne (nea n), upd_ne (ned z)]
    exact n
  · by_cases hb : b = a
    · exact ⟨_, by rw [hb]; exact hx⟩
    · exact ⟨o, k b o hb z⟩
  by_cases hb : b = a
  · subst hb
    rw [upd_same] at z
    cases z
    exact exo_ok hx
  · rw [upd_ne hb] at z
    by_cases hd : b = dx
    · subst hd
      rw [upd_same] at z
      cases z
      exact exd_ok hn (relO_put (fs := []) ry fun _ => True.intro)
    · rw [upd_ne hd] at z
      refine (I.hok b o z).stay (fun c v hc w => k c v ?_ w) (fun c hc => off hc (at_ne e hc exo_own)) (fun c xs hc => off hc (at_ne e hc exo_tup))
      rcases hc with hc | hc
      · rw [hc]
        exact hb
      · exact at_ne e hc exo_own
/-- self.f = y, a further field -/
theorem put_next (BK : BaseK T newId initId) (O : OwnC X.K T newId C) (I : Inv X pins σ H s) (e : H a = some (exo a C (some dx))) (ed : H dx = some (exd dx fs)) (hl : fs.length ≤ 900) (hno : PySem.W.findIn X.K (.ref C) f = some none) (ry : RelV y u)
    (q : ∀ s', Inv X pins σ (upd H dx (exd dx ((f, y) :: fs))) s' → Q () s') : wpAny (model X.prog X.w) A (setAttr (.ref a) f u) Q E s := by
  obtain ⟨nm, qn, N, bs, sn, sub, ab, col, dd, k0, k1, k2, k3, k5, hC⟩ := O.cls
  have hcl : PySem.W.clsIn X.K C = some { name := nm, bases := bs, mro := .ref C :: mroB T, ns := N, qualname := qn, hasDict := true, slotNames := sn, subclasses := sub, abstract := ab, collection := col, hasDel := false } := by unfold PySem.W.clsIn; rw [hC] <;> rfl
  obtain ⟨t1, ho⟩ := exo_at I.hok e
  obtain ⟨mA, hns, rel⟩ := exd_at I.hok ed
  have hw := within_of rel
  obtain ⟨hp, g, d, t, os⟩ := s
  obtain ⟨oD, _, _, hoD, _, _⟩ := hns.count hw
  refine PySem.W.set_plain I.kIn (ox := { cls := .ref C, dict := some dx, data := .fields #[.ref t1, .none, .none, .none, .bool false, .none] }) (od := some oD) ⟨ho, rfl, rfl, hoD⟩ O.sa ?_
  refine osa_next BK I.kIn ho hns hw (by rw [List.length_map]; omega) hcl rfl rfl hno (fun h' tk' k hn => ?_)
  have there : ∃ o, h'.get? dx = some o := by
    obtain ⟨o, _, _, e', _⟩ := hn
    exact ⟨o, e'⟩
  exact q _ (I.write (t' := tk') (x := dx) (e := dx) (o := exd dx ((f, y) :: fs)) (by rw [ed]; exact True.intro) (.inl rfl) k there (exd_ok hn (relO_put ry rel)))
/-- T.__init__(self, ..) -/
theorem base_init {us : List Value} {Q : Value → Shared → Prop} (BK : BaseK T newId initId) (O : OwnC X.K T newId C) (I : Inv X pins σ H s) (e : H a = some (exo a C none)) (hl : us.length ≤ sizeLine) (q : ∀ s', Inv X pins σ H s' → Q .none s') :
    wpAny (model X.prog X.w) A (call (.builtin initId) (.ref a :: us)) Q E s := by
  obtain ⟨nm, qn, N, bs, sn, sub, ab, col, dd, k0, k1, k2, k3, k5, hC⟩ := O.cls
  obtain ⟨t1, ho⟩ := exo_at I.hok e
  obtain ⟨hp, g, d, t, os⟩ := s
  refine wpAny_call (PySem.HandSPX.init_base BK.F (fun _ => rfl) (I.kIn _ _ hC) ho hl fun h' t2 k hx => ?_)
  have J := I.write (t' := t) (x := a) (e := a) (o := exo a C none) (by rw [e]; exact True.intro) (.inl rfl) k ⟨_, hx⟩ (exo_ok hx)
  rw [show upd H a (exo a C none) = H from funext fun b => by
    by_cases hb : b = a
    · rw [hb, upd_same, e]
    · rw [upd_ne hb]] at J
  exact q _ J
/-- an object that is new since the entry is forgotten, and the heap read without it -/
theorem inv_forget {φ : Heap → Prop} (I : Inv X pins σ H s) (ha : H a = some (.ext φ)) (n0 : X.s_0.heap.get? a = none) :
    ∃ G : Heap, (∀ b o, G.get? b = some o → s.heap.get? b = some o) ∧ G.get? a = none ∧ Inv X pins σ (del H a) { s with heap := G } := by
  obtain ⟨G, g1, g2⟩ := restrict s.heap fun b => decide (b ≠ a)
  have stays : ∀ b o, b ≠ a → s.heap.get? b = some o → G.get? b = some o := fun b o hb e => (g1 b (decide_eq_true hb)).trans e
  have noA : G.get? a = none := g2 a (decide_eq_false fun z => z rfl)
  have sub : ∀ b o, G.get? b = some o → s.heap.get? b = some o := fun b o e => by
    by_cases hb : b = a
    · rw [hb, noA] at e
      cases e
    · exact (g1 b (decide_eq_true hb)).symm.trans e
  have ne0 : ∀ b o, X.s_0.heap.get? b = some o → b ≠ a := fun b o e z => by
    subst z
    rw [n0] at e
    cases e
  have neN : ∀ b, H b = none → b ≠ a := fun b e z => by
    subst z
    rw [ha] at e
    cases e
  have neO : ∀ b o, H b = some o → (∀ ψ, o ≠ .ext ψ) → b ≠ a := fun b o e n z => by
    subst z
    rw [ha] at e
    exact n φ (Option.some.inj e).symm
  have cells : ∀ x c, X.env.cells.lookup x = some c → ∀ v, s.heap.IsCell c v → G.IsCell c v := fun x c e v ⟨o, ho, hd⟩ => ⟨o, stays c o (neN c (I.freeC x c e)) ho, hd⟩
  refine ⟨G, sub, noA, ⟨I.ok, I.os, I.bare, ⟨fun b o e n hb hq => stays b o (ne0 b o e) (I.base.keep b o e n hb hq), fun b o e n hb hq => ?_, fun b o e n hq => ?_, fun b o e hq => ?_, fun b xs e => ?_, fun b o u e => ?_, fun b ps e => ?_⟩, ?_, fun x c e => ?_, ?_, fun x c e => ?_, fun p hp => ?_, fun b u e => ?_, I.len⟩⟩
  · obtain ⟨sl, q⟩ := I.base.slot b o e n hb hq
    exact ⟨sl, stays b _ (ne0 b o e) q⟩
  · rw [del_ne (ne0 b o e)]
    exact I.base.free b o e n hq
  · obtain ⟨o', q⟩ := I.base.there b o e hq
    exact ⟨o', stays b o' (ne0 b o e) q⟩
  · have q := I.base.tups b xs e
    rw [del_ne (neO b _ q fun _ z => nomatch z)]
    exact q
  · have q := I.base.frzs b o u e
    rw [del_ne (neO b _ q fun _ z => nomatch z)]
    exact q
  · obtain ⟨m, q⟩ := I.base.tbls b ps e
    exact ⟨m, by rw [del_ne (neO b _ q fun _ z => nomatch z)]; exact q⟩
  · obtain ⟨m, ⟨o, es, ep, ho, r⟩, hl⟩ := I.loc
    refine ⟨m, ⟨o, es, ep, stays _ _ (neN _ I.free) ho, r⟩, fun i x v e1 e2 e3 => ?_⟩
    obtain ⟨u, ru, l⟩ := hl i x v e1 e2 e3
    exact ⟨u, ru, l.imp id fun ⟨k, c, ec, z⟩ => ⟨k, c, ec, cells x c ec _ z⟩⟩
  · obtain ⟨v, z⟩ := I.cell x c e
    exact ⟨v, cells x c e v z⟩
  · rw [del_ne (neN _ I.free)]
    exact I.free
  · rw [del_ne (neN _ (I.freeC x c e))]
    exact I.freeC x c e
  · obtain ⟨e, n, r⟩ := I.pin p hp
    exact ⟨stays _ _ (neN _ n) e, by rw [del_ne (neN _ n)]; exact n, r⟩
  · have hb : b ≠ a := fun z => by
      rw [z, del_same] at e
      cases e
    rw [del_ne hb] at e
    refine (I.hok b u e).stay (fun c v hc q => stays c v ?_ q) (fun c q => ?_) fun c xs q => ?_
    · rcases hc with z | z
      · rw [z]
        exact hb
      · exact neO _ _ z fun _ w => nomatch w
    · rw [del_ne (neO c _ q fun _ z => nomatch z)]
      exact q
    · rw [del_ne (neO c _ q fun _ z => nomatch z)]
      exact q
end
/-! ### readings -/
/-- T.__init__(self, ..) -/
def tBaseI (K : PySem.W.Frag) (T newId : String) (ta : TA) : TE := fun σ H Q => ta σ H fun vs H1 => ∃ (a C : Addr) (ws : List V), vs = .ref a :: ws ∧ ws.length ≤ 1000 ∧ OwnC K T newId C ∧ H1 a = some (exo a C none) ∧ Q .non H1
/-- self.f = e -/
def tPut (K : PySem.W.Frag) (T newId : String) (f : Str) (to te : TE) : TS := fun D σ H => te σ H fun y H1 => to σ H1 fun x H2 => ∃ a C : Addr, x = .ref a ∧ OwnC K T newId C ∧ PySem.W.findIn K (.ref C) f = some none ∧
  ((H2 a = some (exo a C none) ∧ ∀ dx, H2 dx = none → dx ≠ a → D.nx σ (upd (upd H2 dx (exd dx [(f, y)])) a (exo a C (some dx)))) ∨
    ∃ (dx : Addr) (fs : List (Str × V)), H2 a = some (exo a C (some dx)) ∧ H2 dx = some (exd dx fs) ∧ fs.length ≤ 900 ∧ D.nx σ (upd H2 dx (exd dx ((f, y) :: fs))))
/-- C(..), C's own __init__ keeping sp -/
def tMade (C : Addr) (sp : Sp) (ta : TA) : L2.St → Hp → XK → Prop := fun σ H Q => ta σ H fun vs H1 => vs.length ≤ 1000 ∧ ∀ a, H1 a = none → sp (.ref a :: vs) (upd H1 a (exo a C none))
  (fun v H2 => v = .non ∧ ((H2 a = some (exo a C none) ∧ Q (.ref C) none (del H2 a)) ∨ ∃ (d : Addr) (fs : List (Str × V)), H2 a = some (exo a C (some d)) ∧ H2 d = some (exd d fs) ∧ H1 d = none ∧ Q (.ref C) (some d) (upd (del H2 a) d (.xd fs)))) (fun _ _ _ => False)
section
variable {X : Cx} {o e : Expr} {es : List Expr} {to te : TE} {ta : TA} {f : Str} {p p' p1 p2 pos : Pos} {T newId initId : String} {tn : Str}
theorem pe_baseinit {pl : Sem Bool} (BK : BaseK T newId initId) (hg : Gl X tn) (hm : X.mg tn = none) (hB : bootBuiltins tn = some (.type T)) (vV : PySem.W.findCls X.K (.type T) (.type "type") "__init__" = some (.val (.builtin initId))) (ha : PA X (e :: es) ta)
    (hc : eval (.Call (.Attribute (.Name tn p1) "__init__" p2) (e :: es) [] pos) X.env = (do
      let o ← eval (.Name tn p1) X.env
      standAt p2.atName
      let (m, self) ← holding [o] (getMethod o "__init__" pl)
      callWith pos m self (backTo pos (starEach (e :: es) X.env)) (backToKw pos (keywordEach [] X.env))) := by rfl)
    (hn : tn ≠ "__name__" := by decide) (hd : (tn == ("__debug__" : Str)) = false := by decide)
    (he : starEach (e :: es) X.env = (false, eval e X.env) :: starEach es X.env := by rfl) (hpl : (backTo pos (starEach es X.env)).any (·.1) = false := by rfl) :
    PE X (.Call (.Attribute (.Name tn p1) "__init__" p2) (e :: es) [] pos) (tBaseI X.K T newId ta) := by
  refine ⟨fun pins s σ H Q I h => ?_⟩
  refine PySem.W.methodCall_KW (ld_blt I hg hm hB ?_ hn hd) hc
  obtain ⟨m, fr⟩ := I.fr
  refine PySem.W.method_type fr I.ok.mod.kin BK.ty BK.stub vV BK.hand ?_
  show wpAny _ _ (callWith pos (Value.builtin initId) [] (backTo pos (starEach (e :: es) X.env)) []) _ _ _
  refine PyProof.Rows.callWith_method1 (thn (ha.run pos pins _ σ H _ (I.tok _) h) fun us s1 ⟨vs, H1, I1, r1, a, C, ws, ev, hl, O, ea, q⟩ => ?_) he hpl
  subst ev
  cases r1 with
  | @cons _ u0 _ ur ra rw' =>
    obtain rfl : u0 = Value.ref a := ra
    have len : ur.length ≤ sizeLine := by
      rw [← Paired.length rw', sizeLine_eq]
      omega
    exact base_init BK O I1 ea len fun s' J => ⟨.non, H1, J, rfl, q⟩
theorem ps_put (BK : BaseK T newId initId) (ho : PE X o to) (he : PE X e te) (hs : swapsWith e (some (.Attribute o f p')) pos.line X.env = pure false := by rfl) : PS X (.Assign [.Attribute o f p'] e pos) (tPut X.K T newId f to te) := by
  refine ⟨fun pins s σ H D I h => ?_⟩
  refine plainObj_wpAny_Assign_Attribute (thn (he.run pins s σ H _ I h) fun v s1 ⟨y, H1, I1, r1, q1⟩ => thn (ho.run pins s1 σ H1 _ I1 q1) fun u s2 ⟨x, H2, I2, r2, a, C, ex, O, hno, q⟩ => ?_) hs
  subst ex
  obtain rfl : u = Value.ref a := r2
  rcases q with ⟨ea, q⟩ | ⟨dx, fs, ea, ed, hl, q⟩
  · exact put_first BK O I2 ea hno r1 fun dx s' n ne J => ⟨σ, _, J, q dx n ne⟩
  · exact put_next BK O I2 ea ed hl hno r1 fun s' J => ⟨σ, _, J, q⟩
/-- what stands behind C(..) -/
theorem made_end {pins : List (Addr × Obj)} {σ : L2.St} {H1 H2 : Hp} {Q : XK} {hp hp2 h2 : Heap} {g1 g2 : Array GenState} {d1 d2 : Drawn} {t1 t2 : Nat} {os1 os2 : OsState} {a C : Addr} (hex : X.ex = []) (R : Raises X (.ref C)) (I1 : Inv X pins σ H1 ⟨hp, g1, d1, t1, os1⟩)
    (ha : hp.objs.size ≤ a) (k : ∀ b o, hp.get? b = some o → hp2.get? b = some o) (I2 : Inv X pins σ (upd H1 a (exo a C none)) ⟨hp2, g1, d1, t1, os1⟩) (un : Un (frs X.stack) [] (upd H1 a (exo a C none)) H2 hp2 h2) (hok : HOk X.prog X.w H2 h2) (ho : os2 = os1) (hb : AllBare g2)
    (q : (H2 a = some (exo a C none) ∧ Q (.ref C) none (del H2 a)) ∨ ∃ (d : Addr) (fs : List (Str × V)), H2 a = some (exo a C (some d)) ∧ H2 d = some (exd d fs) ∧ H1 d = none ∧ Q (.ref C) (some d) (upd (del H2 a) d (.xd fs))) : MkP X pins σ Q (.ref a) ⟨h2, g2, d2, t2, os2⟩ := by
  rcases q with ⟨ea, q⟩ | ⟨d, fs, ea, ed, hd1, q⟩
  · have J : Inv X pins σ H2 ⟨h2, g2, d2, t2, os2⟩ := I2.call' (ch := []) ho un hok hb (fun b z => absurd z (by simp))
    have n0 : X.s_0.heap.get? a = none := by
      cases e : X.s_0.heap.get? a with
      | none => rfl
      | some o =>
        obtain ⟨o', z⟩ := I1.base.there a o e (by rw [hex]; exact fun z => nomatch z)
        exact absurd (show a < hp.objs.size from Heap.lt_size z) (Nat.not_lt.mpr ha)
    obtain ⟨t0, hoe⟩ := exo_at J.hok ea
    obtain ⟨G, kG, nG, J2⟩ := inv_forget J ea n0
    exact ⟨a, _, _, _, _, .ref C, none, rfl, J2, kG, nG, hoe, ⟨rfl, rfl⟩, rfl, rfl, del_same, rfl, hb, R, q⟩
  · exact mk_end R I1 ha k un hok ho hb ea ed hd1 q
section
variable {CX : CXT} {x : Str} {C fI : Addr} {k : Nat} {fd : FuncData} {ps : List Str} {sp : Sp}
theorem made_call {pins : List (Addr × Obj)} {s1 : Shared} {σ : L2.St} {H1 : Hp} {Q : XK} {us : List Value} {vs : List V} (BK : BaseK T newId initId) (O : OwnC X.K T newId C) (iC : PySem.W.findIn X.K (.ref C) "__init__" = some (some (.ref fI))) (tI : PySem.W.typeIn X.K (.ref fI) = some (.type "function"))
    (F1 : L2.FnOk X.prog X.w X.K X.mg X.base CX k fI fd ps sp) (hr : L2.Room (k + 1) X.A) (hb : Binds X.K fd ps []) (hx : Passes CX X (fun _ _ _ => False)) (hex : X.ex = []) (I1 : Inv X pins σ H1 s1) (r1 : Vals vs us) (hz : vs.length ≤ 1000)
    (q1 : ∀ a, H1 a = none → sp (.ref a :: vs) (upd H1 a (exo a C none))
      (fun v H2 => v = .non ∧ ((H2 a = some (exo a C none) ∧ Q (.ref C) none (del H2 a)) ∨ ∃ (d : Addr) (fs : List (Str × V)), H2 a = some (exo a C (some d)) ∧ H2 d = some (exd d fs) ∧ H1 d = none ∧ Q (.ref C) (some d) (upd (del H2 a) d (.xd fs)))) (fun _ _ _ => False)) :
    wpAny (model X.prog X.w) X.A (call (.ref C) us) (MkP X pins σ Q) X.xe s1 := by
  obtain ⟨nm, qn, N, bs, sn, sub, ab, col, dd, k0, k1, k2, k3, k5, hC⟩ := O.cls
  obtain ⟨hp, g, dr, tk, os⟩ := s1
  have up1 : hp.objs.size ≤ hp.objs.size + 1 := Nat.le_succ _
  have q2 := q1 (hp.objs.size + 1) (I1.hok.fresh up1)
  have kk : ∀ b o, hp.get? b = some o → ((hp.push (PySem.W.kdv_tup us)).push (PySem.HandSPX.excO C hp.objs.size)).get? b = some o := fun b o e => Heap.get?_push_of_some _ (Heap.get?_push_of_some _ e)
  have here : ((hp.push (PySem.W.kdv_tup us)).push (PySem.HandSPX.excO C hp.objs.size)).get? (hp.objs.size + 1) = some (PySem.HandSPX.excO C hp.objs.size) := by heap_get
  have I2 : Inv X pins σ (upd H1 (hp.objs.size + 1) (exo (hp.objs.size + 1) C none)) ⟨(hp.push (PySem.W.kdv_tup us)).push (PySem.HandSPX.excO C hp.objs.size), g, dr, tk, os⟩ :=
    I1.laid (t' := tk) (a := hp.objs.size + 1) (o := exo (hp.objs.size + 1) C none) (h' := (hp.push (PySem.W.kdv_tup us)).push (PySem.HandSPX.excO C hp.objs.size)) kk up1 (exo_ok here)
  have r2 : Vals (V.ref (hp.objs.size + 1) :: vs) (Value.ref (hp.objs.size + 1) :: us) := .cons rfl r1
  have len2 : (Value.ref (hp.objs.size + 1) :: us ++ []).length = ps.length := by
    rw [List.append_nil, ← F1.len _ _ _ _ q2, r2.length]
  have len1 : us.length ≤ sizeLine := by
    rw [← Paired.length r1, sizeLine_eq]
    omega
  have bd := hb ⟨(hp.push (PySem.W.kdv_tup us)).push (PySem.HandSPX.excO C hp.objs.size), g, dr, tk, os⟩ (Value.ref (hp.objs.size + 1) :: us) I2.kIn len2
  rw [List.append_nil] at bd
  refine wpAny_call (PySem.HandSPX.call_own BK.F (fun _ => rfl) (I1.kIn _ _ hC) (PySem.W.looks_findIn I1.kIn iC) (fun self => PySem.W.bind_fn I1.kIn self tI) len1
    (codeAny_mono (F1.run _ X.stack _ _ ⟨Value.ref (hp.objs.size + 1) :: us, []⟩ (Value.ref (hp.objs.size + 1) :: us) _ _ (fun _ _ _ => False) (hr.make C us []) (I2.env0.make C us []) bd r2 q2) fun r s' w => ?_))
  cases r with
  | error er => exact hx pins σ _ _ er s' I2 w
  | ok fl =>
    cases fl with
    | ret u =>
      obtain ⟨v, H2, os2, bare2, un2, hok2, rv, ev, q3⟩ := w
      subst ev
      obtain ⟨h2, g2, d2, t2, os'⟩ := s'
      exact ⟨rv, made_end hex (raises_own O.exC O.tyC) I1 up1 kk I2 un2 hok2 os2 bare2 q3⟩
    | next => exact False.elim w
    | brk => exact False.elim w
    | cont => exact False.elim w
theorem pmk_made (BK : BaseK T newId initId) (O : OwnC X.K T newId C) (iC : PySem.W.findIn X.K (.ref C) "__init__" = some (some (.ref fI))) (tI : PySem.W.typeIn X.K (.ref fI) = some (.type "function"))
    (F1 : L2.FnOk X.prog X.w X.K X.mg X.base CX k fI fd ps sp) (hr : L2.Room (k + 1) X.A) (hb : Binds X.K fd ps []) (hx : Passes CX X (fun _ _ _ => False)) (hex : X.ex = []) (hg : Gl X x) (hm : X.mg x = some (.ref C)) (ha : PA X (e :: es) ta)
    (hdb : (x == ("__debug__" : Str)) = false := by decide) (he : starEach (e :: es) X.env = (false, eval e X.env) :: starEach es X.env := by rfl) (hpl : (backTo pos (starEach es X.env)).any (·.1) = false := by rfl) :
    PMk X (.Call (.Name x p) (e :: es) [] pos) (tMade C sp ta) := by
  intro pins s σ H Q I h
  refine wpAny_Call_Name_kw (ld_glob I hg hm ?_ hdb)
  exact PySem.W.callWith_K (h₀ := X.base) I.ok.mod.kin O.kC (thn (ha.run pos pins s σ H _ I h) fun us s1 ⟨vs, H1, I1, r1, hz, q1⟩ => ⟨I1.kIn, made_call BK O iC tI F1 hr hb hx hex I1 r1 hz q1⟩) he hpl
end
end
end Lk

namespace Lk
open PySem PySem.Spec PyProof.Rows L2
/-- a class of exceptions as it is named -/
structure ClsK (K : PySem.W.Frag) (mg : Str → Option Value) (x : Str) (C : Addr) : Prop where
  g : mg x = some (.ref C)
  is : PySem.W.isClsIn K C = true
  ty : PySem.W.typeIn K (.ref C) = some (.type "type")
  ex : PySem.W.subIn K (.ref C) (.type "BaseException") = some true
  self : PySem.W.subIn K (.ref C) (.ref C) = some true
  non : PySem.W.subIn K (.type "NoneType") (.ref C) = some false
/-- an own class right over T that is raised: its __init__ stands at fI -/
structure OwnK (K : PySem.W.Frag) (mg : Str → Option Value) (x : Str) (T newId initId : String) (tn : Str) (C fI : Addr) : Prop extends ClsK K mg x C where
  O : OwnC K T newId C
  iC : PySem.W.findIn K (.ref C) "__init__" = some (some (.ref fI))
  tI : PySem.W.typeIn K (.ref fI) = some (.type "function")
  E : ExcC K C
  vB : PySem.W.findCls K (.type T) (.type "type") "__init__" = some (.val (.builtin initId))
  nB : mg tn = none
  sB : PySem.W.subIn K (.ref C) (.type T) = some true
section
variable {K : PySem.W.Frag} {mg : Str → Option Value} {x y tn : Str} {C D fI : Addr} {T newId initId : String} {b : Bool}
theorem OwnK.xf (O : OwnK K mg x T newId initId tn C fI) : XfC K C := ⟨O.E.hg, O.E.hk, O.E.hs, O.E.hd⟩
theorem ClsK.kit {t : Value} (k : ClsK K mg x C) (h : PySem.W.subIn K t (.ref C) = some b) : PySem.W.kitCls K t (.ref C) = some b := by
  have c : (PySem.W.clsIn K C).isSome = true := k.is
  unfold PySem.W.kitCls
  show (if ((PySem.W.clsIn K C).isSome && PySem.W.typeIn K (.ref C) == some (.type "type")) = true then PySem.W.subIn K t (.ref C) else none) = some b
  rw [if_pos (by rw [c, k.ty]; rfl)]
  exact h
/-- isinstance of the class D, C asked -/
theorem ClsK.one (k : ClsK K mg x C) (h : PySem.W.subIn K (.ref D) (.ref C) = some b) : PySem.W.kitOne K (.ref D) (.ref C) = some b := by
  unfold PySem.W.kitOne
  by_cases e : D = C
  · subst e
    rw [if_pos (by simp)]
    rw [k.self] at h
    exact h
  · rw [if_neg (by simpa using e)]
    exact k.kit h
theorem ClsK.none (k : ClsK K mg x C) : PySem.W.kitOne K (.type "NoneType") (.ref C) = some false := by
  unfold PySem.W.kitOne
  rw [if_neg (by simp)]
  exact k.kit k.non
theorem kit_base (hm : PySem.W.kitMeta T = true) (h : PySem.W.subIn K (.ref D) (.type T) = some b) : PySem.W.kitOne K (.ref D) (.type T) = some b := by
  unfold PySem.W.kitOne
  rw [if_neg (by simp)]
  unfold PySem.W.kitCls
  show (if PySem.W.kitMeta T = true then PySem.W.subIn K (.ref D) (.type T) else none) = some b
  rw [if_pos hm]
  exact h
/-- a clause of C, an exception of D -/
theorem ClsK.exm (k : ClsK K mg x C) (h : PySem.W.subIn K (.ref D) (.ref C) = some b) : PySem.W.exmOne K (.ref D) (.ref C) = some b := by
  unfold PySem.W.exmOne
  rw [if_pos (by rw [k.ex]; rfl)]
  exact k.kit h
theorem exm_cons {cls c : Value} {cs : List Value} {b d : Bool} (h : PySem.W.exmOne K cls c = some b) (r : PySem.W.exmAny K cls cs = some d) : PySem.W.exmAny K cls (c :: cs) = some (b || d) := by
  unfold PySem.W.exmAny
  rw [h, r]
theorem exm_nil {cls : Value} : PySem.W.exmAny K cls [] = some false := rfl
end
/-- __init__ of one field: what it keeps, whatever text it makes of it -/
def spInit1 (C : Addr) (f : Str) : Sp := fun vs H Q _ => ∃ (a : Addr) (v : V), vs = [.ref a, v] ∧ H a = some (exo a C none) ∧ ((∃ i : Int, v = .int i ∧ i.natAbs.log2 < 900) ∨ ∃ z : Str, v = .str z ∧ z.length ≤ 1000) ∧
  ∀ dx, H dx = none → dx ≠ a → Q .non (upd (upd H dx (exd dx [(f, v)])) a (exo a C (some dx)))
end Lk
namespace Lk
open PySem PySem.Spec PyProof.Rows L2
theorem fit_k {a c : Str} {n m : Nat} (h : a.length ≤ n) (hc : c.length ≤ m) : (a ++ c).length ≤ n + m := by
  rw [Str.length_append]
  omega
theorem fit_line {a : Str} {n : Nat} (h : a.length ≤ n) (hn : n ≤ 9000) : a.length ≤ sizeLine := by
  rw [sizeLine_eq]
  omega
theorem int_len {i : Int} (h : i.natAbs.log2 < 900) : (Str.ofString (toString i)).length ≤ 1000 := by
  have q := int_text_length_le (by decide) h
  rw [PySem.ofString_length]
  omega
end Lk
set_option maxRecDepth 100000
set_option maxHeartbeats 4000000
namespace Lk
open PySem PySem.Spec PySem.Calls PyProof.Rows PySem.W
section
variable {M : Model} {K : Frag} {h : Heap} {A : Around} {E : Value → Shared → Prop}
theorem exm_tupN {cs : List Value} {cls : Value} {tp e : Addr} {b : Bool} (X : K.In h) (LT : Looks M h (typeOf (.ref e)) cls) (hp : h.get? tp = some { cls := .type "tuple", data := .seq cs.toArray }) (hx : exmAny K cls cs = some b) :
    Looks M h (excMatches (.ref e) (.ref tp)) b := by
  intro A Q E s k₀ q
  obtain ⟨hh, g, d, tk, os⟩ := s
  have k : ∀ b o, h.get? b = some o → hh.get? b = some o := k₀
  have LT0 : Looks M h (isInstance (.ref tp) (.type "tuple")) true := ((Looks.ld hp).andThen .now).andThen (Looks.of_pure isSubtype_tuple_tuple)
  have LT := LT.keeps k
  have LT0 := LT0.keeps k
  have hp' := k _ _ hp
  unfold excMatches
  refine wpAny_bind (LT0.at ?_)
  dsimp only
  rw [if_pos rfl]
  first
    | refine wpAny_bind (wpAny_seqItems hp' rfl ?_)
    | refine wpAny_bind (wpAny_bind (wpAny_seqItems hp' rfl (wpAny_pure ?_)))
  dsimp only [Option.getD_some, Option.getD]
  refine wpAny_bind (wpAny_pure ?_)
  have hc : ∀ {r : List Value} {d : Bool}, exmAny K cls r = some d → ∀ c ∈ r, ∃ v, exmOne K cls c = some v := by
    intro r
    induction r with
    | nil => intro d _ c hm; cases hm
    | cons c r ih =>
      intro d hd c' hm
      obtain ⟨b1, d1, x1, y1, _⟩ := exmAny_cons hd
      rcases List.mem_cons.mp hm with e | e
      · rw [e]; exact ⟨b1, x1⟩
      · exact ih y1 c' e
  have loop1 : ∀ (r : List Value) {Q : PUnit → Shared → Prop} {E : Value → Shared → Prop}, (∀ c ∈ r, ∃ v, exmOne K cls c = some v) → Q PUnit.unit ⟨hh, g, d, tk, os⟩ → wpAny M A (forIn r PUnit.unit fun c __s => do
          let __do_lift ← isExcClass c
          if (!__do_lift) = true then do
              rule "try.except-non-exception-class"
              raiseErrorWords "TypeError" "catching classes that do not inherit from BaseException is not allowed"
              pure (ForInStep.yield PUnit.unit)
            else pure (ForInStep.yield PUnit.unit)) Q E ⟨hh, g, d, tk, os⟩ := by
    intro r
    induction r with
    | nil => intro Q E _ q; exact wpAny_pure q
    | cons c r ih =>
      intro Q E hm q
      obtain ⟨v, ev⟩ := hm c List.mem_cons_self
      have L := ((exm_cls (M := M) X ev).1).keeps k
      rw [List.forIn_cons]
      refine wpAny_bind (wpAny_bind (L.at ?_))
      rw [if_neg (by decide)]
      exact wpAny_pure (ih (fun c' h' => hm c' (List.mem_cons_of_mem _ h')) q)
  have loop2 : ∀ (r : List Value) {d' : Bool} {Q : (Option Bool × Unit) → Shared → Prop} {E : Value → Shared → Prop}, exmAny K cls r = some d' → Q (if d' = true then (some true, ()) else (none, ())) ⟨hh, g, d, tk, os⟩ → wpAny M A (forIn r ((none, ()) : Option Bool × Unit) fun c __s => do
            let __do_lift ← isSubtype cls c
            if __do_lift = true then pure (ForInStep.done (some true, ())) else pure (ForInStep.yield (none, ()))) Q E ⟨hh, g, d, tk, os⟩ := by
    intro r
    induction r with
    | nil =>
      intro d' Q E hd q
      cases hd
      exact wpAny_pure q
    | cons c r ih =>
      intro d' Q E hd q
      obtain ⟨b1, d1, x1, y1, z1⟩ := exmAny_cons hd
      have L := ((exm_cls (M := M) X x1).2).keeps k
      rw [List.forIn_cons]
      refine wpAny_bind (wpAny_bind (L.at ?_))
      cases b1 with
      | true =>
        rw [if_pos rfl]
        subst z1
        exact wpAny_pure (wpAny_pure q)
      | false =>
        rw [if_neg (by decide)]
        refine wpAny_pure (ih y1 ?_)
        rw [z1, Bool.false_or] at q
        exact q
  refine wpAny_bind (loop1 cs (hc hx) ?_)
  refine wpAny_bind (LT.at ?_)
  refine wpAny_bind (loop2 cs hx ?_)
  cases b with
  | true => exact wpAny_pure q
  | false => exact wpAny_pure q
end
end Lk
namespace Lk
open PySem PySem.Spec PyProof.Rows L2
/-- a caught exception, held as a value -/
def ExV (cls : Value) (d : Option Addr) (a : Addr) : HO := .ext fun h => ∃ (oe : Obj) (vs : Array Value), h.get? a = some oe ∧ Zc cls d oe ∧ oe.data = .fields vs
theorem exV_ok {P : Program} {w : World} {H : Hp} {h : Heap} {a : Addr} {cls : Value} {d : Option Addr} {oe : Obj} {vs : Array Value} (e : h.get? a = some oe) (z : Zc cls d oe) (hd : oe.data = .fields vs) : ObjOk P w H h a (ExV cls d a) :=
  ⟨⟨oe, vs, e, z, hd⟩, ⟨oe, e⟩, fun _ _ ⟨o, v, q, r⟩ k => ⟨o, v, k o q, r⟩⟩
section
variable {X : Cx} {pins : List (Addr × Obj)} {σ : L2.St} {H : Hp} {s : Shared}
/-- an object that is new since the entry is tracked from here on -/
theorem inv_track {a : Addr} {oe : Obj} {vs : Array Value} {o : HO} (I : Inv X pins σ H s) (he : s.heap.get? a = some oe) (hd : oe.data = .fields vs) (na : H a = none) (n0 : X.s_0.heap.get? a = none) (nL : a ≠ X.env.locals) (np : ∀ p ∈ X.pn ++ pins, p.1 ≠ a)
    (ok : ObjOk X.prog X.w (upd H a o) s.heap a o) : Inv X pins σ (upd H a o) s := by
  refine ⟨I.ok, I.os, I.bare, ⟨I.base.keep, I.base.slot, fun b u e n hx => ?_, I.base.there, fun b xs e => ?_, fun b u v e => ?_, fun b ps e => ?_⟩, I.loc, I.cell, ?_, fun x c e => ?_, fun p hp => ?_, fun b u e => ?_, I.len⟩
  · rw [upd_ne (fun z => by rw [z, n0] at e; cases e)]
    exact I.base.free b u e n hx
  · have q := I.base.tups b xs e
    rw [upd_ne (ne_of_none q na)]
    exact q
  · have q := I.base.frzs b u v e
    rw [upd_ne (ne_of_none q na)]
    exact q
  · obtain ⟨m, q⟩ := I.base.tbls b ps e
    exact ⟨m, by rw [upd_ne (ne_of_none q na)]; exact q⟩
  · rw [upd_ne nL.symm]
    exact I.free
  · have nc : c ≠ a := fun z => by
      obtain ⟨v, o', ho, hv⟩ := I.cell x c e
      rw [z, he] at ho
      cases ho
      rw [hd] at hv
      cases hv
    rw [upd_ne nc]
    exact I.freeC x c e
  · obtain ⟨e, n, r⟩ := I.pin p hp
    exact ⟨e, by rw [upd_ne (np p hp)]; exact n, r⟩
  · by_cases hb : b = a
    · subst hb
      rw [upd_same] at e
      cases e
      exact ok
    · rw [upd_ne hb] at e
      exact (I.hok b u e).stay (fun _ _ _ q => q) (fun c q => by rw [upd_ne (ne_of_none q na)]; exact q) fun c xs q => by rw [upd_ne (ne_of_none q na)]; exact q
theorem inv_unpin {q : Addr × Obj} (I : Inv X (q :: pins) σ H s) : Inv X pins σ H s :=
  ⟨I.ok, I.os, I.bare, I.base, I.loc, I.cell, I.free, I.freeC, fun p hp => I.pin p ((List.mem_append.mp hp).elim (fun z => List.mem_append_left _ z) fun z => List.mem_append_right _ (List.mem_cons_of_mem _ z)), I.hok, I.len⟩
theorem inv_unsuiteK {a : Addr} {q : Addr × Obj} {pn' : List (Addr × Obj)} (I : Inv (X.suite a (q :: (X.pn ++ pins))) pn' σ H s) (ok : X.Ok) : Inv X (q :: pins) σ H s :=
  ⟨ok, I.os, I.bare, I.base, I.loc, I.cell, I.free, I.freeC, fun p hp => I.pin p (List.mem_append_left _ (by
    rcases List.mem_append.mp hp with z | z
    · exact List.mem_cons_of_mem _ (List.mem_append_left _ z)
    · rcases List.mem_cons.mp z with z | z
      · rw [z]; exact List.mem_cons_self
      · exact List.mem_cons_of_mem _ (List.mem_append_right _ z))), I.hok, I.len⟩
end
/-- the names of a tuple of classes -/
inductive TupNames (X : Cx) : List Expr → List Value → Prop
  | nil : TupNames X [] []
  | cons {x : Str} {c : Value} {np : Pos} {es : List Expr} {cs : List Value} (h : Names X x c) (r : TupNames X es cs) : TupNames X (.Name x np :: es) (c :: cs)
theorem TupNames.run {X : Cx} {es : List Expr} {cs : List Value} (T : TupNames X es cs) {a : Addr} {pn : List (Addr × Obj)} {σ : L2.St} {H : Hp} {s : Shared} {tpos : Pos} (S : Inv (X.suite a pn) [] σ H s) {E : Value → Shared → Prop} : ∀ {Q : List Value → Shared → Prop}, Q cs s →
    wpAny (model X.prog X.w) (X.A.mark (some (.ref a))) (spliced (backTo tpos (starEach es X.env))) Q E s := by
  induction T with
  | nil => intro Q q; exact wpAny_items_nil q
  | cons hc r ih =>
    intro Q q
    refine wpAny_items_cons ?_
    obtain ⟨hg, hdbg, hm | ⟨hm, hv, hnn⟩⟩ := hc
    · exact ld_glob (X := X.suite a pn) S hg hm (ih q) hdbg
    · exact ld_blt (X := X.suite a pn) S hg hm hv (ih q) hnn hdbg
theorem TupNames.length {X : Cx} {es : List Expr} {cs : List Value} (T : TupNames X es cs) : cs.length = es.length := by
  induction T with
  | nil => rfl
  | cons _ _ ih => rw [List.length_cons, List.length_cons, ih]
/-- what a clause of a tuple of classes wishes: behind its suite the exception is held as a value -/
def wAsT (K : PySem.W.Frag) (cs : List Value) (i : Nat) (ts : Addr → Value → Option Addr → TS) (Wout : WX) (D : Ends) : WX := fun cls d σ H =>
  ∃ b, PySem.W.exmAny K cls cs = some b ∧ (b = true → ∀ a, H a = none → ts a cls d { nx := fun σ' H' => H' a = none → D.nx (σ'.set i none) (upd H' a (ExV cls d a)), rt := fun _ _ => False, bk := fun _ _ => False, ct := fun _ _ => False } (σ.set i (some (.ref a))) H) ∧
    (b = false → Wout cls d σ H)
section
variable {X : Cx} {n : Str} {cs : List Value} {es : List Expr} {i kk : Nat} {body suite : List Stmt} {b₀ : Stmt} {tpos pos pos' : Pos} {tb : WX → TS} {ts : Addr → Value → Option Addr → TS} {Wout : WX}
theorem ps_try_asT (hs : X.stack = X.env :: X.outer) (hf : X.env.frame = some X.env.locals) (hex : X.ex = []) (hN : X.N.Nodup) (hi : X.N[i]? = some n) (hln : X.env.kindOf n = some .local) (hl : es.length ≤ 100) (hc : TupNames X es cs) (tk : Takes X Wout)
    (hb : ∀ (W : WX) (pn : List (Addr × Obj)) (xe : Value → Shared → Prop), Takes (X.tr pn xe) W → PassesOwn (model X.prog X.w) X.A X.env xe → PSs (X.tr pn xe) body (tb W))
    (hsu : ∀ (a : Addr) (oe : Obj) (cls : Value) (d : Option Addr) (pn : List (Addr × Obj)), Zc cls d oe → (∃ vs, oe.data = .fields vs) → PSs (X.suite a ((a, oe) :: pn)) (b₀ :: suite) (ts a cls d)) :
    PS X (.Try body [.ExceptHandler (some (.Tuple es kk tpos)) (some n) (b₀ :: suite) pos'] [] [] pos) (fun D σ H => tb (wAsT X.K cs i ts Wout D) D σ H) := by
  refine ⟨fun pins s σ H D I h => ?_⟩
  have ok := I.ok
  have hfr : X.A.frames = some (X.env :: X.outer) := by rw [ok.frames, hs]
  have hloc : Loc X.env.scope n := .inl hln
  refine wpAny_Try_except ?_
  refine wpAny_mono ((hb (wAsT X.K cs i ts Wout D) (X.pn ++ pins) (fun e s₁ => wpAny (model X.prog X.w) X.A (noteFrame e X.env) (fun _ s₂ => wpAny (model X.prog X.w) X.A (setFlight e none) (fun _ s₃ =>
    wpAny (model X.prog X.w) X.A (handleBy e X.env [.ExceptHandler (some (.Tuple es kk tpos)) (some n) (b₀ :: suite) pos']) (SP X pins D) X.xe s₃) X.xe s₂) X.xe s₁) (fun u s' xx => ?_) PassesOwn.looking).run [] s σ H D (I.toTry _) h) (fun f s1 hsp => ?_) (fun e s1 he => he)
  · -- the catch
    obtain ⟨a, B, sI, pins', σ', H', cls, d, rfl, J', nb, up, sky, na, os, ag, b, hb1, hyes, hno⟩ := xx
    have J : Inv X pins σ' H' sI := J'.ofTry ok
    have sky' : Sky B (X.env :: X.outer) a (Zc cls d) X.env.locals s'.heap := by rw [← hs]; exact sky
    show wpAny (model X.prog X.w) X.A (noteFrame (.ref a) X.env) _ _ _
    refine Sky.land Zc.steady hfr hf sky' fun h3 fl3 up3 => ?_
    have J3 : Inv X pins σ' H' { s' with heap := h3 } := J.landed nb fl3.1 (up.trans up3) os ag
    obtain ⟨oe3, vs3, he3, hz3, hd3⟩ := fl3.there
    have notFr : ∀ {h : Heap} {o : Obj} {vs : Array Value}, h.FunFrames B (X.env :: X.outer) → h.get? a = some o → o.data = .fields vs → a ∉ frs (X.env :: X.outer) := fun {h o vs} ff e dd hm => by
      obtain ⟨_, o', e', hnf⟩ := ff.mem hm
      rw [e] at e'; cases e'
      exact hnf _ dd
    have nfr := notFr fl3.2.2.1 he3 hd3
    have nL : a ≠ X.env.locals := fun z => nfr (List.mem_filterMap.mpr ⟨X.env, List.mem_cons_self, by rw [hf, z]⟩)
    have nF : a ∉ X.fs := fun hm => by
      obtain ⟨e, he, q⟩ := List.mem_filterMap.mp hm
      exact nfr (List.mem_filterMap.mpr ⟨e, List.mem_cons_of_mem _ he, q⟩)
    have nSt : a ∉ frs X.stack := by rw [hs]; exact nfr
    have nB : B.get? a = none := fl3.2.1
    have nI : sI.heap.get? a = none := by
      cases e : sI.heap.get? a with
      | none => rfl
      | some o =>
        have z := nb a o e nSt
        rw [nB] at z
        cases z
    have n0 : X.s_0.heap.get? a = none := by
      cases e : X.s_0.heap.get? a with
      | none => rfl
      | some o =>
        obtain ⟨o', z⟩ := J.base.there a o e (by rw [hex]; exact fun z => nomatch z)
        rw [nI] at z
        cases z
    have np : ∀ p ∈ X.pn ++ pins, p.1 ≠ a := fun p hp z => by
      have e := (J.pin p hp).1
      rw [z, nI] at e
      cases e
    have S3 := J3.suite he3 hd3 na nL nF
    refine wpAny_handleBy_cons (codeAny_handlers_test ?_) (by intro q; cases q)
    refine wpAny_Tuple (hc.run (tpos := tpos) S3 ⟨?_, ?_⟩)
    · rw [hc.length]
      exact Nat.le_trans hl (by decide)
    obtain ⟨hT, eT⟩ : ∃ hT, hT = h3.push { cls := .type "tuple", data := .seq cs.toArray } := ⟨_, rfl⟩
    have kT : ∀ b o, h3.get? b = some o → hT.get? b = some o := fun b o e => by rw [eT]; exact Heap.get?_push_of_some _ e
    have eP : hT.get? h3.objs.size = some { cls := .type "tuple", data := .seq cs.toArray } := by rw [eT]; exact Heap.get?_push_size h3 rfl
    show wpAny _ _ (excMatches (.ref a) (.ref h3.objs.size)) _ _ ⟨h3.push { cls := .type "tuple", data := .seq cs.toArray }, _, _, _, _⟩
    rw [← eT]
    have flT : HandSPX.FlyingZ B (X.env :: X.outer) a (Zc cls d) hT := by
      obtain ⟨f1, f2, f3, oe, vs, T, oT, ts', g1, g2, g3, g4, g5, g6, g7, g8, g9⟩ := fl3
      exact ⟨fun b o e => kT b o (f1 b o e), f2, f3.of_keeps fun b o e _ => ⟨o, kT b o e, rfl⟩, oe, vs, T, oT, ts', kT _ _ g1, g2, g3, g4, g5, g6, kT _ _ g7, g8, g9⟩
    have upT : h3.UpToSlots hT := Heap.UpToSlots.of_keeps kT
    have LT : PySem.W.Looks (model X.prog X.w) hT (typeOf (.ref a)) cls := fun A Q E s k q => wpAny_typeOf_ref (k _ _ (kT _ _ he3)) (by rw [hz3.1]; exact q)
    have LM := exm_tupN (M := model X.prog X.w) (J3.kIn.keeps kT) LT eP hb1
    refine LM.here (s := ⟨hT, _, _, _, _⟩) ?_
    cases b with
    | true =>
      refine codeAny_handlers_suite_as ?_
      refine HandSPX.lands_againZ (s := ⟨hT, _, _, _, _⟩) flT fun h4 fl4 up4 => ?_
      have J4 : Inv X pins σ' H' { s' with heap := h4 } := J.landed nb fl4.1 (((up.trans up3).trans upT).trans up4) os ag
      obtain ⟨oe4, vs4, he4, hz4, hd4⟩ := fl4.there
      have S4 := J4.suite he4 hd4 na nL nF
      refine store_ok (X := X.suite a ((a, oe4) :: (X.pn ++ pins))) (v := .ref a) S4 hN hi hloc rfl (fun s5 S5 => ?_) (.inr hln)
      refine wpAny_mono ((hsu a oe4 cls d (X.pn ++ pins) hz4 ⟨_, hd4⟩).run [] s5 _ H' _ S5 (hyes rfl a na)) (fun f s6 hsp => ?_) (fun _ _ z => False.elim z)
      cases f with
      | next =>
        obtain ⟨σ6, H6, S6, q6⟩ := hsp
        refine gone_ok (inv_unsuiteK S6 ok) hN hi hln fun s7 J7 => ?_
        obtain ⟨e7, n7, _⟩ := J7.pin (a, oe4) (List.mem_append_right _ List.mem_cons_self)
        refine ⟨_, _, inv_track (inv_unpin J7) e7 hd4 n7 n0 nL np (exV_ok e7 hz4 hd4), q6 n7⟩
      | brk =>
        obtain ⟨σ6, H6, S6, q6⟩ := hsp
        exact q6.elim
      | cont =>
        obtain ⟨σ6, H6, S6, q6⟩ := hsp
        exact q6.elim
      | ret u =>
        obtain ⟨v6, σ6, H6, S6, r6, q6⟩ := hsp
        exact q6.elim
    | false =>
      show wpAny _ X.A (handleBy (.ref a) X.env []) _ _ _
      refine wpAny_handleBy_nil ?_
      obtain ⟨k1, k2, k3, oe, vs, T, oT, ts', he, hz, hd, h1, hr⟩ := id flT
      unfold PySem.passOn
      refine wpAny_bind (wpAny_field he hd h1 ?_)
      rw [if_neg (show ¬ ((Value.ref T == Value.none) = true) from by simp)]
      have fin : wpAny (model X.prog X.w) X.A (setFlight (.ref a) X.env.frame) (fun _ s4 => wpAny (model X.prog X.w) X.A (throw (.ref a) : Sem Flow) (SP X pins D) X.xe s4) X.xe { s' with heap := hT } := by
        rw [hf]
        refine HandSPX.setFlight_upZ flT fun h4 hh4 up4 => wpAny_throw (tk _ _ ?_)
        exact ⟨a, B, sI, pins, σ', H', cls, d, rfl, J, nb, ((up.trans up3).trans upT).trans up4, .inr (.inr (by rw [hs]; exact hh4)), na, os, ag, hno rfl⟩
      first
        | exact wpAny_bind (wpAny_pure (wpAny_bind fin))
        | exact wpAny_bind fin
  · cases f with
    | next =>
      obtain ⟨σ', H', J', q⟩ := hsp
      exact wpAny_execs_nil ⟨σ', H', J'.ofTry ok, q⟩
    | brk =>
      obtain ⟨σ', H', J', q⟩ := hsp
      exact ⟨σ', H', J'.ofTry ok, q⟩
    | cont =>
      obtain ⟨σ', H', J', q⟩ := hsp
      exact ⟨σ', H', J'.ofTry ok, q⟩
    | ret u =>
      obtain ⟨v, σ', H', J', r, q⟩ := hsp
      exact ⟨v, σ', H', J'.ofTry ok, r, q⟩
end
end Lk
namespace Lk
open PySem PySem.Spec PySem.Calls PySem.W
section
variable {K : Frag} {D : Addr} {od : Option Obj}
theorem findObj_bind {name : Str} {a g : Value} (hc : (clsIn K D).isSome = true) (ha : findIn K (.ref D) name = some (some a)) (hg : specialIn K a "__get__" = some (some g)) (ht : takesIn K a = some true) : findObj K D od name = some (.bind g a) := by
  obtain ⟨cd, e⟩ := Option.isSome_iff_exists.mp hc
  simp [findObj, e, ha, hg, ht]
theorem cls_asked {prog : Program} {w : World} {A : Around} {E : Value → Shared → Prop} {Q : Option Value → Shared → Prop} {s : Shared} {x : Addr} {ox : Obj} (C : L2.ExcC K D) (kin : K.In s.heap) (I : InstAt s.heap x ox D od)
    (q : Q (some (.ref D)) { s with toks := s.toks + 1 }) : wpAny (model prog w) A (getAttr? (.ref x) "__class__") Q E s := by
  have fo : findObj K D od "__class__" = some (.bind (.builtin "getset_descriptor.__get__") (.builtin "object.__class__")) := findObj_bind (by obtain ⟨cd, e, _⟩ := any_some C.hd; rw [e]; rfl) C.ha C.hn C.ht
  obtain ⟨hp, g, d, t, os⟩ := s
  have Ty := I.type (M := model prog w)
  have Lg := looks_findIn (M := model prog w) kin C.hg
  have Lk := looks_findIn (M := model prog w) kin C.hk
  have Lf := looks_find (M := model prog w) kin I fo
  have sb : Looks (model prog w) hp (isInstance (.ref x) (.type "BaseException")) true := Ty.andThen (looks_subIn kin C.hs)
  have ne : (onTheHeap (Value.ref D) && Value.builtin "BaseException.__getattribute__" == Value.builtin "object.__getattribute__") = false := by
    rw [show (Value.builtin "BaseException.__getattribute__" == Value.builtin "object.__getattribute__") = false from by decide +kernel, Bool.and_false]
  unfold getAttr? getAttrBy? getAttrBy
  refine wpAny_bind (wpAny_mkText (wpAny_bind (wpAny_attempt (wpAny_holding (wpAny_bind (Ty.at (wpAny_bind (Lg.at ?_))))))))
  show wpAny _ _ (if (onTheHeap (Value.ref D) && Value.builtin "BaseException.__getattribute__" == Value.builtin "object.__getattribute__") = true then _ else _) _ _ _
  rw [if_neg (by rw [ne]; exact Bool.false_ne_true)]
  unfold getAttrByItsOwn hookBefore
  refine wpAny_bind ?_
  rw [if_pos (show onTheHeap (Value.ref D) = true from rfl)]
  refine Lk.at (wpAny_bind (wpAny_attempt (wpAny_holding ?_)))
  unfold callGetattribute
  rw [if_neg (by decide)]
  unfold boundAndCalled
  rw [PySem.F.excAttr_ValueError.ga.bind (.ref x)]
  refine wpAny_bind (wpAny_pure ?_)
  show wpAny _ _ (call (.builtin "BaseException.__getattribute__") [.ref x, .str "__class__" t]) _ _ _
  refine wpAny_call (codeAny_call_builtin PySem.F.excAttr_ValueError.ga.plain PySem.F.entry_bexc_ga ?_)
  refine @check_slot (model prog w) _ _ ⟨hp, g, d, t + 1, os⟩ "BaseException.__getattribute__" "BaseException" "__getattribute__" (.ref x) [.str "__class__" t] [] _ (by decide +kernel) (by decide +kernel) sb (PySem.F.args_bexc_ga (.ref x) (.str "__class__" t)) ?_
  unfold Builtin.«object.__getattribute__»
  refine wpAny_bind (wpAny_of_eq (a := ((Value.ref x : Value), [Value.str "__class__" t])) (by first | rfl | (simp only [slotArgs]; rfl)) ?_)
  refine wpAny_bind (wpAny_pure (wpAny_bind (Ty.at (wpAny_bind (Lf.at ?_)))))
  show wpAny _ _ (holding [Value.builtin "object.__class__"] (call (.builtin "getset_descriptor.__get__") [.builtin "object.__class__", .ref x, .ref D]) >>= ret) _ _ _
  refine wpAny_bind (wpAny_holding (wpAny_call (class_get (s := ⟨hp, g, d, t + 1, os⟩) (ox := ox) (od := od) kin I C.hm ?_)))
  refine wpAny_pure ?_
  show wpAny _ _ (handedOut (.ref D)) _ _ _
  rw [handedOut_of (v := .ref D) rfl]
  first
    | exact wpAny_pure (wpAny_pure q)
    | exact wpAny_pure q
    | exact wpAny_pure (wpAny_bind (wpAny_pure (wpAny_pure q)))
theorem kit_held {x : Addr} {ox : Obj} (C : L2.ExcC K D) : KitX K (.ref x) (.ref D) (fun h => InstAt h x ox D od) where
  ty := fun _ _ _ I => I.type
  it := fun _ _ kin _ => by
    obtain ⟨cdD, hcD, _⟩ := any_some C.hd
    unfold clsIn at hcD
    split at hcD
    · rename_i c' d' cd' sl' ho
      intro A' Q' E' s' k q
      unfold isType loadHead
      exact wpAny_bind (wpAny_loadPart (k _ _ (kin _ _ ho)) (wpAny_pure q))
    · cases hcD
  ne := fun h tp dd its n sl kin htp => by
    obtain ⟨cdD, hcD, _⟩ := any_some C.hd
    refine Bool.eq_false_iff.mpr fun q => ?_
    have e : D = tp := Value.ref.inj (beq_iff_eq.mp q)
    subst e
    unfold clsIn at hcD
    split at hcD
    · rename_i c' d' cd' sl' ho
      cases (kin _ _ ho).symm.trans htp
    · cases hcD
  ca := fun kin I q => cls_asked C kin I q
end
end Lk
namespace Lk
open PySem PySem.Spec PyProof.Rows L2
/-- an exception that was caught stands at a, its fields (none, or those of its dict) -/
def Held (H : Hp) (a D : Addr) (fs : List (Str × V)) : Prop := ∃ d, H a = some (ExV (.ref D) d a) ∧ ((d = none ∧ fs = []) ∨ ∃ dd, d = some dd ∧ H dd = some (.xd fs))
theorem Held.look {P : Program} {w : World} {H : Hp} {h : Heap} {a D : Addr} {fs : List (Str × V)} (x : Held H a D fs) (ok : HOk P w H h) : ∃ oe od, PySem.W.InstAt h a oe D od ∧ ((od = none ∧ fs = []) ∨ ∃ (o : Obj) (mA : Str → Option Value), od = some o ∧ (∀ name, PySem.W.lookIn name o = some (mA name)) ∧ ∀ f, RelO (fs.lookup f) (mA f)) := by
  obtain ⟨d, ha, hd⟩ := x
  obtain ⟨⟨oe, vs, e, ⟨z1, z2⟩, hv⟩, _⟩ := (show ObjOk P w H h a (ExV (.ref D) d a) from ok a _ ha)
  have nc : PySem.W.notCls oe = true := by unfold PySem.W.notCls; rw [hv]
  rcases hd with ⟨rfl, hf⟩ | ⟨dd, rfl, hx⟩
  · exact ⟨oe, none, ⟨e, z1, nc, by rw [z2]; trivial⟩, .inl ⟨rfl, hf⟩⟩
  · obtain ⟨mA, n, r⟩ := (show ObjOk P w H h dd (.xd fs) from ok dd _ hx)
    obtain ⟨o, ho, hl⟩ := lookIn_ns n
    exact ⟨oe, some o, ⟨e, z1, nc, by rw [z2]; exact ho⟩, .inr ⟨o, mA, rfl, hl, r⟩⟩
/-- isinstance(caught, c) -/
def rIsV (K : PySem.W.Frag) : List V → Hp → VK → Prop := fun xs H Q => ∃ (a D : Addr) (fs : List (Str × V)) (c : V) (u : Value) (b : Bool), xs = [.ref a, c] ∧ Held H a D fs ∧ ExcC K D ∧ ClsV c u ∧ PySem.W.kitOne K (.ref D) u = some b ∧ Q (.bl b) H
/-- isinstance(caught, (c1, c2, ..)) -/
def rIsVT (K : PySem.W.Frag) : List V → Hp → VK → Prop := fun xs H Q => ∃ (a D tp : Addr) (fs : List (Str × V)) (cs : List V) (us : List Value) (b : Bool), xs = [.ref a, .ref tp] ∧ H tp = some (.tup cs) ∧ Held H a D fs ∧ ExcC K D ∧ Paired ClsV cs us ∧ PySem.W.kitAny K (.ref D) us = some b ∧ Q (.bl b) H
section
variable {X : Cx}
theorem call_isV : CallR X (.builtin "isinstance") (rIsV X.K) := by
  intro pins s σ H xs us Q I r h
  obtain ⟨a, D, fs, c, u, b, rfl, hh, C, k, e, q⟩ := h
  obtain ⟨u1, u2, rfl, r1, r2⟩ := vals2 r
  cases (show u1 = Value.ref a from r1)
  have e2 := k.eq r2
  subst e2
  obtain ⟨oe, od, J, _⟩ := hh.look I.hok
  exact PySem.W.kia_one (kit_held C) I.kIn J e (fun z => nomatch z) fun tk => ⟨.bl b, H, I.tok tk, rfl, q⟩
theorem call_isVT : CallR X (.builtin "isinstance") (rIsVT X.K) := by
  intro pins s σ H xs us Q I r h
  obtain ⟨a, D, tp, fs, cs, ws, b, rfl, hT, hh, C, k, e, q⟩ := h
  obtain ⟨u1, u2, rfl, r1, r2⟩ := vals2 r
  cases (show u1 = Value.ref a from r1)
  cases (show u2 = Value.ref tp from r2)
  obtain ⟨oe, od, J, _⟩ := hh.look I.hok
  obtain ⟨_, its, rv, o, h1, h2, n, h3⟩ := (show ObjOk X.prog X.w H s.heap tp (.tup cs) from I.hok tp _ hT)
  have e3 := ClsV.all k rv
  subst e3
  obtain ⟨oc, odd, dt, sl⟩ := o
  simp only at h2 h3
  subst h2 h3
  exact PySem.W.kia_tup (kit_held C) I.kIn J h1 e (fun z => nomatch z) fun tk => ⟨.bl b, H, I.tok tk, rfl, q⟩
/-- caught.f -/
def tXv (K : PySem.W.Frag) (f : Str) (te : TE) : TE := fun σ H Q => te σ H fun x H1 => ∃ (a D : Addr) (fs : List (Str × V)) (v : V), x = .ref a ∧ Held H1 a D fs ∧ XfC K D ∧ PySem.W.findIn K (.ref D) f = some none ∧ fs.lookup f = some v ∧ Q v H1
theorem pe_xv {e : Expr} {te : TE} {pos : Pos} {n : Str} (he : PE X e te) (hb : attributeBase e n X.env (eval e X.env) = eval e X.env := by rfl) : PE X (.Attribute e n pos) (tXv X.K n te) := by
  refine ⟨fun pins s σ H Q I h => ?_⟩
  refine attr_of hb (thn (he.run pins s σ H _ I h) fun u s1 hh => ?_)
  obtain ⟨x, H1, I1, rx, a, D, fs, v, rfl, hd, T, hno, l, q⟩ := hh
  cases (show u = Value.ref a from rx)
  obtain ⟨oe, od, J, w⟩ := hd.look I1.hok
  rcases w with ⟨_, rfl⟩ | ⟨o, mA, rfl, hl, hr⟩
  · cases l
  · obtain ⟨u, hu, ru⟩ := RelO.some_of (v := v) (o := mA n) (by rw [← l]; exact hr n)
    exact HandSPX.exc_get I1.kIn J T.ga T.gg T.exC (PySem.W.findObj_own T.hdC hno rfl (by rw [hl, hu])) (handed_of ru) ⟨v, H1, I1.tok _, ru, q⟩
end
end Lk
namespace Lk
open PySem PySem.Spec PyProof.Rows L2
theorem Held.same {H H' : Hp} {a D : Addr} {fs : List (Str × V)} (s : Same H H') (x : Held H a D fs) : Held H' a D fs := by
  obtain ⟨d, ha, hd⟩ := x
  exact ⟨d, s _ _ ha, hd.imp id fun ⟨dd, e, q⟩ => ⟨dd, e, s _ _ q⟩⟩
end Lk

namespace Lk
open PySem PySem.Spec PyProof.Rows L2
theorem FnOk.toX {P : Program} {w : World} {K : PySem.W.Frag} {mg : Str → Option Value} {base : Heap} {CX : CXT} {k : Nat} {f : Addr} {fd : FuncData} {ps : List Str} {sp : Sp} (F : FnOk P w K mg base CX0 k f fd ps sp) : FnOk P w K mg base CX k f fd ps sp :=
  ⟨F.len, fun A out s H ar us vs Q E z e b v m => codeAny_mono (F.run A out s H ar us vs Q E z e b v m) fun r s' q => by
    rcases r with e | fl
    · exact (q : False).elim
    · cases fl <;> exact q⟩
/-- as Cal, of a def that may raise -/
structure CalX (P : Program) (w : World) (K : PySem.W.Frag) (mg : Str → Option Value) (base : Heap) (k : Nat) (x : Str) (ps : List Str) (sp : Sp) : Prop where
  ex : ∃ f fd, FnOk P w K mg base (L2.CX P w) k f fd ps sp ∧ mg x = some (.ref f) ∧ PySem.W.keepIn K (.ref f) = true ∧ Binds K fd ps []
theorem Cal.toX {P : Program} {w : World} {K : PySem.W.Frag} {mg : Str → Option Value} {base : Heap} {k : Nat} {x : Str} {ps : List Str} {sp : Sp} (C : Cal P w K mg base k x ps sp) : CalX P w K mg base k x ps sp := by
  obtain ⟨f, fd, F, r⟩ := C.ex
  exact ⟨f, fd, F.toX, r⟩
section
variable {X : Cx} {k m : Nat} {x : Str} {ps : List Str} {sp : Sp} {p pos : Pos} {e : Expr} {es : List Expr} {t : TA} {W : WX}
theorem pe_calX (C : CalX X.prog X.w X.K X.mg X.base k x ps sp) (hr : Room m X.A) (tw : Takes X W) (ha : PA X (e :: es) t) (hle : k ≤ m := by first | decide | omega) (hg : Gl X x := by rfl)
    (hdb : (x == ("__debug__" : Str)) = false := by decide) (he : starEach (e :: es) X.env = (false, eval e X.env) :: starEach es X.env := by rfl) (hpl : (backTo pos (starEach es X.env)).any (·.1) = false := by rfl) :
    PE X (.Call (.Name x p) (e :: es) [] pos) (tCallS sp (L2.WE W) t) := by
  obtain ⟨f, fd, F, hm, hk, hb⟩ := C.ex
  refine ⟨fun pins s σ H Q I h => ?_⟩
  refine wpAny_Call_Name_kw (ld_glob I hg hm (PySem.W.callWith_K (h₀ := X.base) I.ok.mod.kin hk (thn (ha.run pos pins s σ H _ I h) ?_) he hpl) hdb)
  rintro us s1 ⟨vs, H1, I1, rv, q⟩
  have bd := hb s1 us I1.kIn (by rw [List.append_nil]; exact rv.length.symm.trans (F.len _ _ _ _ q))
  rw [List.append_nil] at bd
  exact ⟨I1.kIn, fn_ranX (ar := ⟨us, []⟩) (F.mono hle) hr (passAt tw σ) I1 bd rv q⟩
end
end Lk
set_option maxRecDepth 100000
set_option maxHeartbeats 4000000
namespace Lk
open PySem PySem.Spec PyProof.Rows L2
def spNN (C : Addr) : Sp := fun vs H Q _ => ∃ (p D E W : Addr) (n i r : Nat) (x : Str) (ks : List Str) (bar : Str → Str → Bool) (kvs : List (Key × V)) (f : Str → Nat), vs = [.ref p, .int (n : Nat), .int (i : Nat)] ∧ CountIs C H p D E W ks bar kvs ∧ ks.Nodup ∧ ks.length ≤ 40 ∧ n < 2 ^ ks.length ∧
  (∀ x ∈ nxtL ks bar (prN ks n), valV kvs (.inl ((n + bitN ks x : Nat) : Int)) = some (.int (f x : Nat))) ∧ pickL f (nxtL ks bar (prN ks n)) i = some (x, r) ∧
  ∀ T H', Same H H' → TupAt H' T [.str x, .int (r : Nat)] → Q (.ref T) H'
/-- people in order, the row's own -/
def SortOf (row ks : List Str) : Prop := ks.Perm row ∧ sortedS ks = true
theorem SortOf.uniq {row ks js : List Str} (h : SortOf row ks) (g : SortOf row js) : ks = js := sortedS_uniq (h.1.trans g.1.symm) h.2 g.2
def ordN (ps : List (Str × Str)) (row ks : List Str) : List (List Str) := allN ks (barB ps row) row.length fun _ => false
def spNthO : Sp := fun vs H Q _ => ∃ (a r : Addr) (i : Nat) (ps : List (Str × Str)) (row ks order : List Str), vs = [.ref a, .ref r, .int (i : Nat)] ∧ FrAt H a ps ∧ ps.length ≤ 1000 ∧ RowAt H r row ∧ row.Nodup ∧ row.length ≤ 12 ∧ goneR ps [] row = [] ∧ SortOf row ks ∧ (ordN ps row ks)[i]? = some order ∧
  ∀ l H', Same H H' → H l = none → H' l = some (.lst (order.map V.str)) → Q (.ref l) H'
/-- beyond them -/
def spNthX (C : Addr) : Sp := fun vs H Q E => ∃ (a r : Addr) (i : Int) (ps : List (Str × Str)) (row : List Str), vs = [.ref a, .ref r, .int i] ∧ FrAt H a ps ∧ ps.length ≤ 1000 ∧ RowAt H r row ∧ row.Nodup ∧ row.length ≤ 12 ∧ goneR ps [] row = [] ∧ i.natAbs < 10 ^ 12 ∧ (i < 0 ∨ (waysN row (barB ps row) row.length (fun _ => false) : Nat) ≤ i) ∧
  ∀ dx H', Same H H' → H' dx = some (.xd [("number", .int i)]) → H dx = none → E (.ref C) (some dx) H'
section
variable {ks : List Str} {bar : Str → Str → Bool} {k n i r : Nat} {x : Str} {s : List Str}
/-- one more in a bunch -/
theorem allN_put (nd : ks.Nodup) (rc : Rch ks bar k n) (hx : x ∈ nxtL ks bar (prN ks n)) (m : Nat) : (allN ks bar m fun z => prN ks n z || z == x) = allN ks bar m (prN ks (n + bitN ks x)) := by
  obtain ⟨h1, h2, _⟩ := nxtL_mem.mp hx
  exact (allN_congr m fun z hz => pr_add nd (rc.lt nd) h1 h2 z hz).symm
theorem waysN_put (nd : ks.Nodup) (rc : Rch ks bar k n) (hx : x ∈ nxtL ks bar (prN ks n)) (m : Nat) : (waysN ks bar m fun z => prN ks n z || z == x) = waysN ks bar m (prN ks (n + bitN ks x)) := by
  obtain ⟨h1, h2, _⟩ := nxtL_mem.mp hx
  exact (waysN_congr m fun z hz => pr_add nd (rc.lt nd) h1 h2 z hz).symm
theorem pick_mem {f : Str → Nat} {l : List Str} (h : pickL f l i = some (x, r)) : x ∈ l := by
  obtain ⟨l1, l2, e, _⟩ := pick_spec h
  rw [e]
  simp
theorem allN_none (m : Nat) : allN ks bar m (prN ks 0) = allN ks bar m fun _ => false := allN_congr m fun x _ => by unfold prN; simp
theorem pick_congr {f g : Str → Nat} : ∀ {l : List Str} {i : Nat}, (∀ x ∈ l, f x = g x) → pickL f l i = pickL g l i
  | [], _, _ => rfl
  | x :: l, i, h => by
    unfold pickL
    rw [h x List.mem_cons_self, pick_congr fun y hy => h y (List.mem_cons_of_mem _ hy)]
end
/-! ### all orders, by the law, in their order -/
section
variable {ps : List (Str × Str)} {row ks : List Str}
end
end Lk
set_option maxRecDepth 100000
set_option maxHeartbeats 4000000
namespace Lk
open PySem PySem.Spec PyProof.Rows L2
/-! ### range(n) as a thing, list(range(n)) -/
section
variable {X : Cx}
end
/-! ### whole numbers written -/
section
variable {ks : List Str} {bar : Str → Str → Bool}
/-- none is left out -/
theorem allN_mem : ∀ (k : Nat) {p : Str → Bool} {s : List Str}, s.length = k → KeepsL ks bar p s → s ∈ allN ks bar k p
  | 0, p, s, h, _ => by
    rw [List.length_eq_zero_iff.mp h]
    exact List.mem_singleton.mpr rfl
  | k + 1, p, s, h, ⟨nd, m, b⟩ => by
    cases s with
    | nil => cases h
    | cons x t =>
      obtain ⟨nx, nt⟩ := List.nodup_cons.mp nd
      obtain ⟨x1, x2⟩ := m x List.mem_cons_self
      refine List.mem_flatMap.mpr ⟨x, nxtL_mem.mpr ⟨x1, x2, fun y hy hb => ?_⟩, List.mem_map.mpr ⟨t, allN_mem k (Nat.succ.inj h) ⟨nt, fun y hy => ?_, fun y hy z hz hb => ?_⟩, rfl⟩⟩
      · rcases b x List.mem_cons_self y hy hb with c | ⟨_, c⟩
        · exact c
        · rw [List.idxOf_cons_self] at c
          exact absurd c (Nat.not_lt_zero _)
      · obtain ⟨m1, m2⟩ := m y (List.mem_cons_of_mem _ hy)
        have ne : y ≠ x := fun e => nx (e ▸ hy)
        exact ⟨m1, by show (p y || y == x) = false; rw [m2, beq_false_of_ne ne]; rfl⟩
      · have ne : ¬ x = y := fun e => nx (e ▸ hy)
        rcases b y (List.mem_cons_of_mem _ hy) z hz hb with c | ⟨c1, c2⟩
        · exact .inl (by show (p z || z == x) = true; rw [c]; rfl)
        · by_cases e : z = x
          · exact .inl (by rw [e]; simp)
          · refine .inr ⟨(List.mem_cons.mp c1).resolve_left e, ?_⟩
            have e' : ¬ x = z := fun h => e h.symm
            rw [List.idxOf_cons, List.idxOf_cons, beq_false_of_ne ne, beq_false_of_ne e'] at c2
            exact Nat.lt_of_succ_lt_succ c2
end
section
variable {ps : List (Str × Str)} {row ks o : List Str}
theorem ord_perm (nd : row.Nodup) (so : SortOf row ks) (h : o ∈ ordN ps row ks) : o.Perm row := by
  obtain ⟨l, n, m, _⟩ := allN_keeps _ h
  exact nd_perm n nd (fun x hx => so.1.mem_iff.mp (m x hx).1) l
theorem ord_of (irr : Irr ps) (nd : row.Nodup) (so : SortOf row ks) : o ∈ ordN ps row ks ↔ OrdOf ps row o := by
  constructor
  · intro h
    have pm := ord_perm nd so h
    obtain ⟨l, n, m, b⟩ := allN_keeps _ h
    refine ⟨n, pm, (lin_iff irr _ o row rfl n pm).mpr fun u hu v hv hb => ?_⟩
    rcases b v (pm.mem_iff.mpr hv) u (so.1.mem_iff.mpr hu) (decide_eq_true ((barsL_mem nd hu).mpr ⟨hv, hb⟩)) with c | c
    · cases c
    · exact c.2
  · rintro ⟨n, pm, st⟩
    have pm' := pm
    have li := (lin_iff irr _ o row rfl n pm').mp st
    refine allN_mem _ pm'.length_eq ⟨n, fun x hx => ⟨so.1.mem_iff.mpr (pm'.mem_iff.mp hx), rfl⟩, fun x hx y hy hb => .inr ?_⟩
    have my := so.1.mem_iff.mp hy
    have hb2 := ((barsL_mem nd my).mp (of_decide_eq_true hb)).2
    exact ⟨pm'.mem_iff.mpr my, li y my x (pm'.mem_iff.mp hx) hb2⟩
end
theorem rising_pw : ∀ (l : List Str) (p : Str), (p :: l).Pairwise (fun a b => tlx a ≤ tlx b) → risingS p l = true
  | [], _, _ => rfl
  | x :: r, p, h => by
    obtain ⟨h1, h2⟩ := List.pairwise_cons.mp h
    show (!ltCps x.cps.toList p.cps.toList && risingS x r) = true
    rw [rising_pw r x h2, Bool.and_true, ltCps_eq, Bool.not_eq_true', decide_eq_false_iff_not]
    exact List.not_lt.mpr (h1 x List.mem_cons_self)
theorem sort_has (row : List Str) : ∃ ks, SortOf row ks := by
  refine ⟨row.mergeSort (fun a b => decide (tlx a ≤ tlx b)), List.mergeSort_perm _ _, ?_⟩
  have pw := List.pairwise_mergeSort (le := fun a b : Str => decide (tlx a ≤ tlx b)) (fun a b c h1 h2 => decide_eq_true (List.le_trans (of_decide_eq_true h1) (of_decide_eq_true h2))) (fun a b => by
    rw [Bool.or_eq_true, decide_eq_true_eq, decide_eq_true_eq]
    exact List.le_total _ _) row
  generalize row.mergeSort (fun a b => decide (tlx a ≤ tlx b)) = l at pw
  cases l with
  | nil => rfl
  | cons x r => exact rising_pw r x (pw.imp fun h => of_decide_eq_true h)
end Lk
set_option maxRecDepth 100000
set_option maxHeartbeats 4000000
namespace Lk
open PySem PySem.Spec PyProof.Rows L2
/-- exchanged at the first place where neighbours stand the other way about, again and again -/
inductive ExF (f : Str → Nat) : List Str → List Nat → List Str → Prop where
  | nil (o : List Str) : ExF f o [] o
  | cons {o o' : List Str} {i : Nat} {ts : List Nat} (x y : Str) (hx : o[i]? = some x) (hy : o[i + 1]? = some y) (up : (o.take (i + 1)).Pairwise fun u v => f u < f v) (lt : f y < f x) (t : ExF f (swapL o i x y) ts o') : ExF f o (i :: ts) o'
theorem up_pair {f : Str → Nat} {l : List Str} {k i : Nat} {x y : Str} (h : (l.take k).Pairwise fun u v => f u < f v) (hi : i + 1 < k) (hx : l[i]? = some x) (hy : l[i + 1]? = some y) : f x < f y := by
  have h1 : (l.take k)[i]? = some x := by rw [List.getElem?_take, if_pos (by omega)]; exact hx
  have h2 : (l.take k)[i + 1]? = some y := by rw [List.getElem?_take, if_pos hi]; exact hy
  obtain ⟨b1, e1⟩ := List.getElem?_eq_some_iff.mp h1
  obtain ⟨b2, e2⟩ := List.getElem?_eq_some_iff.mp h2
  have := List.pairwise_iff_getElem.mp h i (i + 1) b1 b2 (by omega)
  rw [e1, e2] at this
  exact this
theorem ExF.uniq {f : Str → Nat} {o a : List Str} {ts : List Nat} (h : ExF f o ts a) (ha : a.Pairwise fun u v => f u < f v) : ∀ {b : List Str} {us : List Nat}, ExF f o us b → (b.Pairwise fun u v => f u < f v) → ts = us := by
  induction h with
  | nil o =>
    intro b us h hb
    cases h with
    | nil => rfl
    | @cons _ _ i us x y hx hy up lt t =>
      have := up_pair (k := o.length) (by rw [List.take_of_length_le (Nat.le_refl _)]; exact ha) (List.getElem?_eq_some_iff.mp hy).1 hx hy
      omega
  | @cons o o' i ts x y hx hy up lt t ih =>
    intro b us h hb
    cases h with
    | nil =>
      have := up_pair (k := o.length) (by rw [List.take_of_length_le (Nat.le_refl _)]; exact hb) (List.getElem?_eq_some_iff.mp hy).1 hx hy
      omega
    | @cons _ _ j us u v hu hv up2 lt2 t2 =>
      have e : i = j := by
        rcases Nat.lt_trichotomy i j with z | z | z
        · have := up_pair up2 (by omega) hx hy
          omega
        · exact z
        · have := up_pair up (by omega) hu hv
          omega
      subst e
      rw [hx] at hu
      cases hu
      rw [hy] at hv
      cases hv
      rw [ih ha t2 hb]
end Lk
set_option maxRecDepth 100000
set_option maxHeartbeats 4000000
namespace Lk
open PySem PySem.Spec PyProof.Rows L2
/-! ### the first of the elders who is astray -/
theorem TupAt.but {K : PySem.W.Frag} {H : Hp} {e : Addr} {elders : List Str} (h : TupAt H e (elders.map V.str)) : ButKeeps K H e elders := fun H' s => .inr (h.same s).sq
end Lk
namespace Lk
open PySem PySem.Spec PyProof.Rows L2
end Lk
set_option maxRecDepth 100000
set_option maxHeartbeats 4000000
namespace Lk
open PySem PySem.Spec PyProof.Rows L2
/-! ### {x} in an f-string: any data, as a text -/
def tFmtD (K : PySem.W.Frag) (te : TE) : TE := fun σ H Q => te σ H fun x H1 => ∃ (a : Addr) (d : PyData), x = .ref a ∧ Dp K H1 (.ref a) d ∧ d.showable = true ∧ d.hasDict = false ∧ d.depth ≤ 60 ∧ d.shown.length ≤ sizeLine ∧ Q (.str d.shown) H1
section
variable {X : Cx}
theorem pe_fmtD {k : Nat} {e : Expr} {te : TE} {pos : Pos} (z : Room k X.A) (he : PE X e te) : PE X (.FormattedValue e (-1) none pos) (tFmtD X.K te) := by
  refine ⟨fun pins s σ H Q I h => ?_⟩
  refine wpAny_FormattedValue_plain (thn (he.run pins s σ H _ I h) fun v s1 hv => ?_)
  obtain ⟨x, H1, I1, r1, a, d, rfl, hd, sh, nd, dp, sz, q⟩ := hv
  cases r1
  obtain ⟨as, rd⟩ := Dp.reads I1 d (.ref a) (.ref a) hd rfl
  exact formatField_of_reads rd sh (PyData.noDict_hsm nd) z.gd (by have := z.units; omega) (fun _ _ e => e) (fun h' u tk kp => ⟨.str d.shown, H1, I1.kept (t' := tk) kp, ⟨u, rfl⟩, q⟩) sz
end
/-! ### an own exception, its __init__ under my Room -/
section
variable {X : Cx} {o e : Expr} {es : List Expr} {to te : TE} {ta : TA} {f : Str} {p p' p1 p2 pos : Pos} {T newId initId : String} {tn : Str}
variable {CX : CXT} {x : Str} {C fI : Addr} {k : Nat} {fd : FuncData} {ps : List Str} {sp : Sp}
theorem made_callR {pins : List (Addr × Obj)} {s1 : Shared} {σ : L2.St} {H1 : Hp} {Q : XK} {us : List Value} {vs : List V} (BK : BaseK T newId initId) (O : OwnC X.K T newId C) (iC : PySem.W.findIn X.K (.ref C) "__init__" = some (some (.ref fI))) (tI : PySem.W.typeIn X.K (.ref fI) = some (.type "function"))
    (F1 : FnOk X.prog X.w X.K X.mg X.base CX k fI fd ps sp) (hr : Room (k + 1) X.A) (hb : Binds X.K fd ps []) (hx : Passes CX X (fun _ _ _ => False)) (hex : X.ex = []) (I1 : Inv X pins σ H1 s1) (r1 : Vals vs us) (hz : vs.length ≤ 1000)
    (q1 : ∀ a, H1 a = none → sp (.ref a :: vs) (upd H1 a (exo a C none))
      (fun v H2 => v = .non ∧ ((H2 a = some (exo a C none) ∧ Q (.ref C) none (del H2 a)) ∨ ∃ (d : Addr) (fs : List (Str × V)), H2 a = some (exo a C (some d)) ∧ H2 d = some (exd d fs) ∧ H1 d = none ∧ Q (.ref C) (some d) (upd (del H2 a) d (.xd fs)))) (fun _ _ _ => False)) :
    wpAny (model X.prog X.w) X.A (call (.ref C) us) (MkP X pins σ Q) X.xe s1 := by
  obtain ⟨nm, qn, N, bs, sn, sub, ab, col, dd, k0, k1, k2, k3, k5, hC⟩ := O.cls
  obtain ⟨hp, g, dr, tk, os⟩ := s1
  have up1 : hp.objs.size ≤ hp.objs.size + 1 := Nat.le_succ _
  have q2 := q1 (hp.objs.size + 1) (I1.hok.fresh up1)
  have kk : ∀ b o, hp.get? b = some o → ((hp.push (PySem.W.kdv_tup us)).push (PySem.HandSPX.excO C hp.objs.size)).get? b = some o := fun b o e => Heap.get?_push_of_some _ (Heap.get?_push_of_some _ e)
  have here : ((hp.push (PySem.W.kdv_tup us)).push (PySem.HandSPX.excO C hp.objs.size)).get? (hp.objs.size + 1) = some (PySem.HandSPX.excO C hp.objs.size) := by heap_get
  have I2 : Inv X pins σ (upd H1 (hp.objs.size + 1) (exo (hp.objs.size + 1) C none)) ⟨(hp.push (PySem.W.kdv_tup us)).push (PySem.HandSPX.excO C hp.objs.size), g, dr, tk, os⟩ :=
    I1.laid (t' := tk) (a := hp.objs.size + 1) (o := exo (hp.objs.size + 1) C none) (h' := (hp.push (PySem.W.kdv_tup us)).push (PySem.HandSPX.excO C hp.objs.size)) kk up1 (exo_ok here)
  have r2 : Vals (V.ref (hp.objs.size + 1) :: vs) (Value.ref (hp.objs.size + 1) :: us) := .cons rfl r1
  have len2 : (Value.ref (hp.objs.size + 1) :: us ++ []).length = ps.length := by
    rw [List.append_nil, ← F1.len _ _ _ _ q2, r2.length]
  have len1 : us.length ≤ sizeLine := by
    rw [← Paired.length r1, sizeLine_eq]
    omega
  have bd := hb ⟨(hp.push (PySem.W.kdv_tup us)).push (PySem.HandSPX.excO C hp.objs.size), g, dr, tk, os⟩ (Value.ref (hp.objs.size + 1) :: us) I2.kIn len2
  rw [List.append_nil] at bd
  refine wpAny_call (PySem.HandSPX.call_own BK.F (fun _ => rfl) (I1.kIn _ _ hC) (PySem.W.looks_findIn I1.kIn iC) (fun self => PySem.W.bind_fn I1.kIn self tI) len1
    (codeAny_mono (F1.run _ X.stack _ _ ⟨Value.ref (hp.objs.size + 1) :: us, []⟩ (Value.ref (hp.objs.size + 1) :: us) _ _ (fun _ _ _ => False) (hr.make C us []) (I2.env0.make C us []) bd r2 q2) fun r s' w => ?_))
  cases r with
  | error er => exact hx pins σ _ _ er s' I2 w
  | ok fl =>
    cases fl with
    | ret u =>
      obtain ⟨v, H2, os2, bare2, un2, hok2, rv, ev, q3⟩ := w
      subst ev
      obtain ⟨h2, g2, d2, t2, os'⟩ := s'
      exact ⟨rv, made_end hex (raises_own O.exC O.tyC) I1 up1 kk I2 un2 hok2 os2 bare2 q3⟩
    | next => exact False.elim w
    | brk => exact False.elim w
    | cont => exact False.elim w
theorem pmk_madeR (BK : BaseK T newId initId) (O : OwnC X.K T newId C) (iC : PySem.W.findIn X.K (.ref C) "__init__" = some (some (.ref fI))) (tI : PySem.W.typeIn X.K (.ref fI) = some (.type "function"))
    (F1 : FnOk X.prog X.w X.K X.mg X.base CX k fI fd ps sp) (hr : Room (k + 1) X.A) (hb : Binds X.K fd ps []) (hx : Passes CX X (fun _ _ _ => False)) (hex : X.ex = []) (hg : Gl X x) (hm : X.mg x = some (.ref C)) (ha : PA X (e :: es) ta)
    (hdb : (x == ("__debug__" : Str)) = false := by decide) (he : starEach (e :: es) X.env = (false, eval e X.env) :: starEach es X.env := by rfl) (hpl : (backTo pos (starEach es X.env)).any (·.1) = false := by rfl) :
    PMk X (.Call (.Name x p) (e :: es) [] pos) (tMade C sp ta) := by
  intro pins s σ H Q I h
  refine wpAny_Call_Name_kw (ld_glob I hg hm ?_ hdb)
  exact PySem.W.callWith_K (h₀ := X.base) I.ok.mod.kin O.kC (thn (ha.run pos pins s σ H _ I h) fun us s1 ⟨vs, H1, I1, r1, hz, q1⟩ => ⟨I1.kIn, made_callR BK O iC tI F1 hr hb hx hex I1 r1 hz q1⟩) he hpl
end
/-! ### a class of one's own whose __init__ may raise -/
structure CalNX (P : Program) (w : World) (K : PySem.W.Frag) (mg : Str → Option Value) (base : Heap) (k : Nat) (x : Str) (C : Addr) (ps : List Str) (sp : Sp) : Prop where
  cls : Cls K C
  g : mg x = some (.ref C)
  ex : ∃ f fd, FnOk P w K mg base (L2.CX P w) k f fd ps sp ∧ Mk K C f ∧ Binds K fd ps []
def tMakeX (C : Addr) (sp : Sp) (E : L2.St → XK) (t : TA) : TE := fun σ H Q => t σ H fun vs H1 => ∀ x dx, H1 x = none → H1 dx = none → dx ≠ x →
  sp (.ref x :: vs) (upd (upd H1 dx (.own x)) x (.ins C dx [])) (fun v H2 => v = .non ∧ Q (.ref x) H2) (E σ)
section
variable {X : Cx} {k n : Nat} {C : Addr} {ps : List Str} {sp : Sp} {x : Str} {p pos : Pos} {e : Expr} {es : List Expr} {t : TA} {W : WX}
theorem pe_makeX (N : CalNX X.prog X.w X.K X.mg X.base k x C ps sp) (z : Room n X.A) (tw : Takes X W) (ha : PA X (e :: es) t) (hle : k + 1 ≤ n := by first | decide | omega) (hg : Gl X x := by rfl) (hdb : (x == ("__debug__" : Str)) = false := by decide)
    (he : starEach (e :: es) X.env = (false, eval e X.env) :: starEach es X.env := by rfl) (hpl : (backTo pos (starEach es X.env)).any (·.1) = false := by rfl) :
    PE X (.Call (.Name x p) (e :: es) [] pos) (tMakeX C sp (L2.WE W) t) := by
  obtain ⟨f, fd, F, M, hb⟩ := N.ex
  constructor
  intro pins s σ H Q I h
  refine wpAny_Call_Name_kw (ld_glob I hg N.g (PySem.W.callWith_K (h₀ := X.base) I.ok.mod.kin M.kp (thn (ha.run pos pins s σ H _ I h) ?_) he hpl) hdb)
  rintro us s1 ⟨vs, H1, I1, rv, q⟩
  refine ⟨I1.kIn, ?_⟩
  obtain ⟨a, ea⟩ : ∃ a, a = s1.heap.objs.size := ⟨_, rfl⟩
  have q1 := q (a + 1) a (I1.hok.fresh (by omega)) (I1.hok.fresh (by omega)) (Nat.ne_of_lt (Nat.lt_succ_self a))
  have I2 := Inv.made (C := C) I1
  rw [← ea] at I2
  have r1 : Vals (V.ref (a + 1) :: vs) (Value.ref (a + 1) :: us) := .cons rfl rv
  have len2 : (Value.ref (a + 1) :: us ++ []).length = ps.length := by
    rw [List.append_nil, ← F.len _ _ _ _ q1, r1.length]
  have bd := hb _ (Value.ref (a + 1) :: us) I2.kIn len2
  rw [List.append_nil] at bd
  have back := F.run _ X.stack _ _ ⟨Value.ref (a + 1) :: us, []⟩ (Value.ref (a + 1) :: us) _ _ (L2.WE W σ) ((z.mono hle).make C us []) (I2.env0.make C us []) bd r1 q1
  refine wpAny_call (make_map (f := f) I1.kIn M.makes M.init (beq_iff_eq.mp M.fn) ?_)
  rw [← ea]
  refine codeAny_mono back ?_
  rintro (er | fl) s2 ends
  · exact passAt tw σ pins _ _ er s2 I2 ends
  cases fl with
  | ret u =>
    obtain ⟨v, H2, I3, ru, ev, q2⟩ := I2.after ends
    subst ev
    exact ⟨ru, V.ref (a + 1), H2, I3, rfl, q2⟩
  | next => exact (ends : False).elim
  | brk => exact (ends : False).elim
  | cont => exact (ends : False).elim
end
/-! ### promises: kept, Stuck(left), who is refused -/
def spKept : Sp := fun vs H Q _ => ∃ (t : Addr) (xs : List Str), vs = [.ref t] ∧ TupAt H t (xs.map V.str) ∧ Q (.ref t) H
def spInitT (C : Addr) (f : Str) : Sp := fun vs H Q _ => ∃ (a t : Addr) (xs : List Str), vs = [.ref a, .ref t] ∧ H a = some (exo a C none) ∧ TupAt H t (xs.map V.str) ∧ (∀ x ∈ xs, NameOk x) ∧ xs.length ≤ 100 ∧
  ∀ dx, H dx = none → dx ≠ a → Q .non (upd (upd H dx (exd dx [(f, .ref t)])) a (exo a C (some dx)))
/-- a row without an order: Stuck is raised -/
def spSomeX (C : Addr) : Sp := fun vs H Q E => ∃ (a r : Addr) (ps : List (Str × Str)) (row : List Str), vs = [.ref a, .ref r] ∧ FrAt H a ps ∧ ps.length ≤ 1000 ∧ RowAt H r row ∧ row.Nodup ∧ row.length ≤ 40 ∧ (∀ x ∈ row, NameOk x) ∧ goneR ps [] row ≠ [] ∧
  ∀ d t H', Same H H' → H' d = some (.xd [("left", .ref t)]) → H d = none → TupAt H' t ((goneR ps [] row).map V.str) → E (.ref C) (some d) H'
def spCIX (C CS : Addr) : Sp := fun vs H Q E => ∃ (p a r : Addr) (ps : List (Str × Str)) (row : List Str), vs = [.ref p, .ref a, .ref r] ∧ FrAt H a ps ∧ ps.length ≤ 1000 ∧ RowAt H r row ∧ row.Nodup ∧ row.length ≤ 40 ∧ (∀ x ∈ row, NameOk x) ∧ goneR ps [] row ≠ [] ∧
  ∀ d t H', Same H H' → H' d = some (.xd [("left", .ref t)]) → H d = none → TupAt H' t ((goneR ps [] row).map V.str) → E (.ref CS) (some d) H'
end Lk
namespace Lk
open PySem PySem.Spec PyProof.Rows L2
theorem fit_shown {n w : Nat} {d : PyData} (f : Fit n w d) : d.shown.length ≤ 15 * w + 13 := by
  have h := PyData.shown_le 13 (by decide) d f.lv
  have := f.wt
  have e : (13 + 2) * d.weight ≤ 15 * w := Nat.mul_le_mul (by decide) this
  omega
theorem names_fitT {xs : List Str} (h : ∀ x ∈ xs, NameOk x) (hn : xs.length ≤ 100) : Fit 1 900 (strsTD xs) := fit_strsT (fun x hx => ⟨(h x hx).good, (h x hx).len⟩) hn
theorem dp_names {K : PySem.W.Frag} {H : Hp} {t : Addr} {xs : List Str} (h : TupAt H t (xs.map V.str)) : Dp K H (.ref t) (strsTD xs) := by
  exact .tup h.sq (dpAll_map V.str PyData.str fun z _ => .str z)
end Lk
namespace Lk
open PySem PySem.Spec PyProof.Rows L2
theorem goneN_sub {ps : List (Str × Str)} {stay : List Str} : ∀ (n : Nat) (row : List Str), (goneN ps stay n row).2.Sublist row
  | 0, row => List.Sublist.refl _
  | n + 1, row => by
    unfold goneN
    cases (someL ps stay row).getLast? with
    | none => exact List.Sublist.refl _
    | some x => exact (goneN_sub n (rem row x)).trans List.filter_sublist
theorem goneR_sub {ps : List (Str × Str)} {stay row : List Str} : (goneR ps stay row).Sublist row := goneN_sub _ _
end Lk
namespace Lk
open PySem PySem.Spec PyProof.Rows L2
/-! ### k77: all lists of some names, rising -/
end Lk
namespace Lk
open PySem PySem.Spec PyProof.Rows L2
/-! ### k17: asked of a row without an order -/
def spStk (n : Nat) (C : Addr) : Sp := fun vs H Q E => ∃ (a r : Addr) (ws : List V) (ps : List (Str × Str)) (row : List Str), vs = .ref a :: .ref r :: ws ∧ ws.length = n ∧ FrAt H a ps ∧ ps.length ≤ 1000 ∧ RowAt H r row ∧ row.Nodup ∧ row.length ≤ 40 ∧ (∀ x ∈ row, NameOk x) ∧ goneR ps [] row ≠ [] ∧
  ∀ d t H', Same H H' → H' d = some (.xd [("left", .ref t)]) → H d = none → TupAt H' t ((goneR ps [] row).map V.str) → E (.ref C) (some d) H'
def spLeft17 : Sp := fun vs H Q _ => ∃ (a t : Addr) (ps : List (Str × Str)) (row : List Str), vs = [.ref a, .ref t] ∧ PalsAt H a ps ∧ PalsOk ps ∧ Irr ps ∧ TupAt H t (row.map V.str) ∧ Goods row ∧ row.Nodup ∧ row.length ≤ 60 ∧
  ∀ t' H', Same H H' → TupAt H' t' ((goneR ps [] row).map V.str) → Q (.ref t') H'
def spAsk17 (C : Addr) : Sp := fun vs H Q E => ∃ (a t : Addr) (way : Nat) (i : Int) (ps : List (Str × Str)) (row : List Str) (x y : Str), vs = [.ref a, .ref t, .int (way : Nat), .str x, .str y, .int i] ∧ FrAt H a ps ∧ ps.length ≤ 1000 ∧ PalsOk ps ∧ Irr ps ∧ TupAt H t (row.map V.str) ∧ row.Nodup ∧ row.length ≤ 12 ∧ (∀ z ∈ row, NameOk z) ∧ x ∈ row ∧ y ∈ row ∧ (way = 7 → x ≠ y) ∧ way < 10 ∧ (goneR ps [] row = [] → i = 0) ∧ i.natAbs < 10 ^ 12 ∧
  (goneR ps [] row = [] → ∀ v H', Same H H' → Q v H') ∧
  (goneR ps [] row ≠ [] → ∀ d l H', Same H H' → H' d = some (.xd [("left", .ref l)]) → H d = none → TupAt H' l ((goneR ps [] row).map V.str) → E (.ref C) (some d) H')
def spTold17 : Sp := fun vs H Q _ => ∃ (a t : Addr) (way : Nat) (i : Int) (ps : List (Str × Str)) (row : List Str) (x y : Str), vs = [.ref a, .ref t, .int (way : Nat), .str x, .str y, .int i] ∧ FrAt H a ps ∧ ps.length ≤ 1000 ∧ PalsOk ps ∧ Irr ps ∧ TupAt H t (row.map V.str) ∧ row.Nodup ∧ row.length ≤ 12 ∧ (∀ z ∈ row, NameOk z) ∧ x ∈ row ∧ y ∈ row ∧ (way = 7 → x ≠ y) ∧ way < 10 ∧ (goneR ps [] row = [] → i = 0) ∧ i.natAbs < 10 ^ 12 ∧
  (goneR ps [] row = [] → ∀ H', Same H H' → Q (.bl true) H') ∧
  (goneR ps [] row ≠ [] → ∀ l H', Same H H' → TupAt H' l ((goneR ps [] row).map V.str) → Q (.ref l) H')
end Lk
namespace Lk
open PySem PySem.Spec PyProof.Rows L2
section
variable {ps : List (Str × Str)} {row : List Str} {k : Nat}
theorem looseTo_off (h : ∀ j x, k ≤ j → row[j]? = some x → looseB ps row j x = false) : ∀ d, k + d ≤ row.length → looseTo ps row (k + d) = looseTo ps row k
  | 0, _ => rfl
  | d + 1, hl => by
    have hlt : k + d < row.length := by omega
    have e := looseTo_step (ps := ps) (List.getElem?_eq_getElem hlt)
    rw [h (k + d) _ (by omega) (List.getElem?_eq_getElem hlt)] at e
    show looseTo ps row (k + d + 1) = _
    rw [e, looseTo_off h d (by omega)]
    simp
theorem someL_off (hk : k ≤ row.length) (h : ∀ j x, k ≤ j → row[j]? = some x → looseB ps row j x = false) : someL ps [] row = looseTo ps row k := by
  have e := looseTo_off h (row.length - k) (by omega)
  rw [show k + (row.length - k) = row.length by omega, looseTo_all] at e
  unfold someL
  rw [e]
  exact List.filter_eq_self.mpr fun x _ => by simp
theorem left_done (h : ∀ j x, 0 ≤ j → row[j]? = some x → looseB ps row j x = false) : goneR ps [] row = row := by
  refine (gone_none ?_).2
  rw [someL_off (k := 0) (Nat.zero_le _) h]
  unfold looseTo
  rw [List.take_zero]
  rfl
theorem left_go {x : Str} (nd : row.Nodup) (hk : row[k]? = some x) (lx : looseB ps row k x = true) (h : ∀ j y, k + 1 ≤ j → row[j]? = some y → looseB ps row j y = false) : goneR ps [] row = goneR ps [] (row.take k ++ row.drop (k + 1)) := by
  have kl : k < row.length := (List.getElem?_eq_some_iff.mp hk).1
  have e : (someL ps [] row).getLast? = some x := by
    rw [someL_off (k := k + 1) (by omega) h, looseTo_step hk, if_pos lx]
    simp
  rw [(gone_some nd e).2]
  have sp := split_at hk
  have : rem row x = row.take k ++ row.drop (k + 1) := by
    conv => lhs; rw [sp]
    exact rem_split (sp ▸ nd)
  rw [this]
end
end Lk
namespace Lk
open PySem PySem.Spec PyProof.Rows L2
section
variable {X : Cx}
theorem call_repr_bl : CallR X (.builtin "repr") (fun xs H Q => ∃ b, xs = [.bl b] ∧ Q (.str (if b then "True" else "False")) H) := by
  intro pins s σ H xs us Q I r h
  obtain ⟨b, rfl, q⟩ := h
  obtain ⟨u, rfl, rx⟩ := vals1 r
  cases rx
  exact PySem.P.repr_of_bool ⟨.str _, H, I.tok _, ⟨_, rfl⟩, q⟩
end
def spSameB : Sp := fun vs H Q _ => ∃ b : Bool, vs = [.bl b, .bl b] ∧ ∀ H', Same H H' → Q (.bl true) H'
def spSame17 (K : PySem.W.Frag) : Sp := fun vs H Q E => spSameR K vs H Q E ∨ spSameB vs H Q E
end Lk
set_option maxRecDepth 100000
set_option maxHeartbeats 4000000
namespace Lk
open PySem PySem.Spec PyProof.Rows L2
def topS (i : Nat) : Stmt := PySem.Challenge.pw_letinrow_k17_asked_of_rows_without_an_or.main.body.getD i (.Pass ⟨0, 0, 0, 0⟩)
section
variable {P : Program} {w : World} {K : PySem.W.Frag} {mg : Str → Option Value} {base : Heap}
/-! ### _law_take -/
abbrev sTake : Stmt := topS 45
theorem scTake : FnScope ["_law_box_here", "_law_many", "_law_found", "_law_blend"] ["_law_box_here", "_law_many"] (defScope sTake) := ⟨rfl, rfl, rfl, by decide +kernel, rfl, by decide +kernel, by decide +kernel⟩
theorem ok_take {f : Addr} {fd : FuncData} (F : Fun K "_law_take" "_law_take" sTake f fd) : FnOk P w K mg base CX0 1 f fd ["_law_box_here", "_law_many"] spTake := by
  refine fok F scTake (fun vs H Q E h => ?_) (fun cdv A outer s H vs Q E hr h => ?_)
  · obtain ⟨b, many, rfl, _⟩ := h
    rfl
  obtain ⟨b, many, rfl, ⟨x, y, z, hb⟩, h0, h1, q⟩ := h
  refine ⟨_, pss_cons (ps_if (pt_cmpR op_gt (pe_ix ix_list (pv 0) pe_int (fun _ _ => rfl)) pe_int (nomark _))
      (pss_cons (ps_set (i := 2) scTake.nd rfl (.inl rfl) (pe_op op_mod (pe_ix ix_list (pv 0) pe_int (fun _ _ => rfl)) (pv 1)))
      (pss_cons (ps_asg (pe_op op_fdiv (pe_ix ix_list (pv 0) pe_int (fun _ _ => rfl)) (pv 1)) (pg_sub (pv 0) pe_int set_list))
      (pss_one (ps_ret (pv 2))))) pss_nil)
    (pss_cons (ps_asg (pe_op op_add (pe_ix ix_list (pv 0) pe_int (fun _ _ => rfl)) pe_int) (pg_sub (pv 0) pe_int set_list))
    (pss_cons (ps_set (i := 3) scTake.nd rfl (.inl rfl) (pe_op op_mod (pe_op op_add (pe_ix ix_list (pv 0) pe_int (fun _ _ => rfl)) (pe_op op_mul pe_int (pe_ix ix_list (pv 0) pe_int (fun _ _ => rfl)))) pe_int))
    (pss_cons (ps_set (i := 3) scTake.nd rfl (.inl rfl) (pe_op op_mod (pe_op op_add (pe_op op_add (pe_op op_mul (pv 3) (pv 3)) (pe_op op_mul pe_int (pe_ix ix_list (pv 0) pe_int (fun _ _ => rfl)))) pe_int) pe_int))
    (pss_cons (ps_set (i := 3) scTake.nd rfl (.inl rfl) (pe_op op_mod (pe_op op_add (pe_op op_mul (pv 3) (pe_op op_add (pe_op op_fdiv (pv 3) pe_int) pe_int)) (pe_ix ix_list (pv 0) pe_int (fun _ _ => rfl))) pe_int))
    (pss_one (ps_ret (pe_op op_mod (pe_op op_fdiv (pv 3) pe_int) (pv 1)))))))), ?_⟩
  have hL : SqL K H b [.int x, .int y, .int z] := .inl (.inl hb)
  refine ⟨.ref b, rfl, b, _, 0, _, rfl, rfl, hL, atI_nat (j := 0) rfl, _, _, rfl, rfl, _, rfl, ?_⟩
  refine ite2 (fun c => ?_) (fun c => ?_)
  · refine ⟨.ref b, rfl, b, _, 0, _, rfl, rfl, hL, atI_nat (j := 0) rfl, _, rfl, _, _, rfl, rfl, h0, ?_⟩
    refine ⟨.ref b, rfl, b, _, 0, _, rfl, rfl, hL, atI_nat (j := 0) rfl, _, rfl, _, _, rfl, rfl, ⟨h0, h1⟩, ?_⟩
    refine ⟨.ref b, rfl, b, _, 0, 0, rfl, rfl, hb, rfl, ?_⟩
    exact ⟨_, rfl, q _ _ Oth.upd ⟨_, _, _, upd_same⟩ (Int.emod_nonneg _ (by omega)) (Int.emod_lt_of_pos _ h0)⟩
  · refine ⟨.ref b, rfl, b, _, 2, _, rfl, rfl, hL, atI_nat (j := 2) rfl, _, _, rfl, rfl, ?_⟩
    refine ⟨.ref b, rfl, b, _, 2, 2, rfl, rfl, hb, rfl, ?_⟩
    have hU : upd H b (.lst ([.int x, .int y, .int z].set 2 (.int (z + 1)))) b = some (.lst [.int x, .int y, .int (z + 1)]) := upd_same
    have hL2 : SqL K (upd H b (.lst ([.int x, .int y, .int z].set 2 (.int (z + 1))))) b [.int x, .int y, .int (z + 1)] := .inl (.inl hU)
    refine ⟨.ref b, rfl, b, _, 1, _, rfl, rfl, hL2, atI_nat (j := 1) rfl, .ref b, rfl, b, _, 2, _, rfl, rfl, hL2, atI_nat (j := 2) rfl, _, _, rfl, rfl, .inl (by decide), _, _, rfl, rfl, _, _, rfl, rfl, (by show (0 : Int) < 2305843009213693951; decide), ?_⟩
    generalize hm1 : (y + 1442695040888963407 * (z + 1)) % 2305843009213693951 = m1
    have b1 : 0 ≤ m1 ∧ m1 < 2305843009213693951 := by
      rw [← hm1]
      exact ⟨Int.emod_nonneg _ (by decide), Int.emod_lt_of_pos _ (by decide)⟩
    refine ⟨_, rfl, _, rfl, _, _, rfl, rfl, .inl ⟨by omega, by omega⟩, .ref b, rfl, b, _, 2, _, rfl, rfl, hL2, atI_nat (j := 2) rfl, _, _, rfl, rfl, .inl (by decide), _, _, rfl, rfl, _, _, rfl, rfl, _, _, rfl, rfl, (by show (0 : Int) < 2305843009213693921; decide), ?_⟩
    generalize hm2 : (m1 * m1 + 39373 * (z + 1) + 7) % 2305843009213693921 = m2
    have b2 : 0 ≤ m2 ∧ m2 < 2305843009213693921 := by
      rw [← hm2]
      exact ⟨Int.emod_nonneg _ (by decide), Int.emod_lt_of_pos _ (by decide)⟩
    refine ⟨_, rfl, _, rfl, _, _, rfl, rfl, ⟨by decide, by decide⟩, _, _, rfl, rfl, _, _, rfl, rfl, .inl ⟨by omega, by omega⟩, .ref b, rfl, b, _, 2, _, rfl, rfl, hL2, atI_nat (j := 2) rfl, _, _, rfl, rfl, _, _, rfl, rfl, (by show (0 : Int) < 2305843009213693907; decide), ?_⟩
    generalize (m2 * (m2 / 65536 + 3) + (z + 1)) % 2305843009213693907 = m3
    refine ⟨_, rfl, _, _, rfl, rfl, ⟨by decide, by decide⟩, _, rfl, _, _, rfl, rfl, h0, ?_⟩
    exact q _ _ Oth.upd ⟨_, _, _, upd_same⟩ (Int.emod_nonneg _ (by omega)) (Int.emod_lt_of_pos _ h0)
/-! ### _law_box -/
abbrev sBox : Stmt := topS 44
theorem scBox : FnScope ["_law_cells_here", "_law_k", "_law_cell"] ["_law_cells_here", "_law_k"] (defScope sBox) := ⟨rfl, rfl, rfl, by decide +kernel, rfl, by decide +kernel, by decide +kernel⟩
theorem ok_box {f : Addr} {fd : FuncData} (B : Blt mg) (F : Fun K "_law_box" "_law_box" sBox f fd) : FnOk P w K mg base CX0 1 f fd ["_law_cells_here", "_law_k"] spBox := by
  refine fok F scBox (fun vs H Q E h => ?_) (fun cdv A outer s H vs Q E hr h => ?_)
  · obtain ⟨a, ns, k, rfl, _⟩ := h
    rfl
  obtain ⟨a, ns, k, rfl, ha, hk, hk2, q⟩ := h
  refine ⟨_, pss_cons (ps_set (i := 2) scBox.nd rfl (.inl rfl) (pe_ix ix_list (pv 0) (pv 1) (fun _ _ => rfl)))
    (pss_one (ps_ret (pe_lst (pa_cons (pe_op op_mul (pe_callB call_abs (by rfl) B.abs (by decide +kernel) (pa_cons (pv 2) pa_nil)) (pe_callTy call_int1 (by rfl) B.int (by decide +kernel) (pa_cons (pe_cmpR op_ge (pe_callB call_abs (by rfl) B.abs (by decide +kernel) (pa_cons (pv 2) pa_nil)) (pe_op op_pow pe_int pe_int) (nomark _)) pa_nil)))
      (pa_cons (pe_op op_add (pe_op op_add (pe_op op_mod (pv 2) pe_int) (pe_op op_mul pe_int (pv 1))) pe_int) (pa_cons pe_int pa_nil)))))), ?_⟩
  obtain ⟨c, hc⟩ : ∃ c, ns[k]? = some c := ⟨ns[k], List.getElem?_eq_getElem hk⟩
  refine ⟨.ref a, rfl, .int k, rfl, a, _, k, .int c, rfl, rfl, .inl (.inl ha), atI_nat (ix_map hc), ?_⟩
  refine ⟨_, rfl, _, rfl, _, rfl, _, rfl, _, _, rfl, rfl, ⟨by decide, by decide, by decide⟩, _, _, rfl, rfl, .inr ⟨_, rfl, _, _, rfl, rfl, .inr (bit01 _), ?_⟩⟩
  refine ⟨_, rfl, _, _, rfl, rfl, (by show (0 : Int) < 2305843009213693951; decide), _, rfl, _, _, rfl, rfl, .inl (by decide), _, _, rfl, rfl, _, _, rfl, rfl, (by show 3 ≤ sizeLine; decide), fun p hp => ?_⟩
  exact q p _ (same_upd hp) hp ⟨_, _, _, upd_same⟩
/-! ### _law_cells -/
abbrev sCells : Stmt := topS 46
theorem scCells : FnScope ["_law_script", "_law_utmost", "_law_cells_here", "_law_k", "_law_cell"] ["_law_script", "_law_utmost"] (defScope sCells) := ⟨rfl, rfl, rfl, by decide +kernel, rfl, by decide +kernel, by decide +kernel⟩
theorem ok_cells {f : Addr} {fd : FuncData} (B : Blt mg) (F : Fun K "_law_cells" "_law_cells" sCells f fd) : FnOk P w K mg base CX0 1 f fd ["_law_script", "_law_utmost"] (spCells K) := by
  refine fok F scCells (fun vs H Q E h => ?_) (fun cdv A outer s H vs Q E hr h => ?_)
  · obtain ⟨a, ns, k, rfl, _⟩ := h
    rfl
  obtain ⟨a, ns, u, rfl, ha, hn, h0, h3, q⟩ := h
  refine ⟨_, pss_cons (ps_set (i := 2) scCells.nd rfl (.inl rfl) (pe_orT (pe_callTy call_list_of (by rfl) B.list (by decide +kernel) (pa_cons (pe_slice sl_list (pv 0) po_none (po_some (pv 1))) pa_nil)) (pe_one (pe_lst (pa_cons pe_int pa_nil)))))
    (pss_cons (ps_for PassesOwn.never rfl (pi_enum (by rfl) B.enumerate (pa_cons (pe_slice sl_list (pv 0) (po_some (pv 1)) (po_some pe_int)) pa_nil))
        (pg_tup rfl (pgs_cons (pg_name (i := 3) scCells.nd rfl (.inl rfl)) (pgs_cons (pg_name (i := 4) scCells.nd rfl (.inl rfl)) pgs_nil)))
      (pss_one (ps_asg (pe_op op_add (pe_ix ix_list (pv 2) (pe_op op_mod (pv 3) (pv 1)) (fun _ _ => rfl)) (pe_op op_mul (pv 4) (pe_op op_add (pv 3) pe_int))) (pg_sub (pv 2) (pe_op op_mod (pv 3) (pv 1)) set_list))))
    (pss_one (ps_ret (pv 2)))), ?_⟩
  -- what follows once cells stand at c
  have rest : ∀ (c : Addr) (ms : List Int) (H1 : Hp), Same H H1 → H c = none → H1 c = some (.lst (ms.map V.int)) → 0 < ms.length → ms.length ≤ 3 → (u < ns.length → ms.length = u) → ∀ (D : Ends) , D.rt = Q → 
      (tSeq (tFor (iEnum K (tCons (tSl (rSlL K) (tVar 0) (tPart (tVar 1)) (tPart (tC (.int 63)))) tNil)) (gTup K 2 (gCons (gName 3) (gCons (gName 4) gNil))) (tAsg (tOp (rI0 fun i j => .int (i + j)) (tOp (rIxL K) (tVar 2) (tOp (rI (fun _ j => 0 < j) fun i j => .int (i % j)) (tVar 3) (tVar 1))) (tOp (rI CMul fun i j => .int (i * j)) (tVar 4) (tOp (rI0 fun i j => .int (i + j)) (tVar 3) (tC (.int 2))))) (gSub (tVar 2) (tOp (rI (fun _ j => 0 < j) fun i j => .int (i % j)) (tVar 3) (tVar 1)) rSetL))) (tRet (tVar 2))) D [some (.ref a), some (.int u), some (.ref c), none, none] H1 := by
    intro c ms H1 s1 nc hc m0 m3 mu D hD
    refine ⟨.ref a, rfl, _, rfl, u, rfl, 63, rfl, a, _, rfl, s1.seq ha, fun p hp => ?_⟩
    have s2 : Same H1 (upd H1 p (.lst (cutV (ns.map V.int) (some u) (some 63)))) := same_upd hp
    have npc : c ≠ p := ne_of_none hc hp
    rw [cutV_map]
    generalize hr2 : cutL ns (some (u : Int)) (some 63) = r2
    refine ⟨p, r2.map V.int, rfl, .inl (.inl upd_same), ?_⟩
    refine for_it (walk_enum (xs := r2.map V.int)) (fun i σ H3 => ∃ (y3 y4 : Option V) (ms' : List Int), σ = [some (.ref a), some (.int u), some (.ref c), y3, y4] ∧ Same H H3 ∧ H3 p = some (.lst (r2.map V.int)) ∧ H3 c = some (.lst (ms'.map V.int)) ∧ ms'.length = ms.length) ?_ ?_ ?_ ?_
    · exact ⟨none, none, ms, rfl, s1.trans (same_upd hp), upd_same, (upd_ne npc).trans hc, rfl⟩
    · rintro i σ H3 _ ⟨y3, y4, ms', rfl, e1, e2, e3, e4⟩
      exact .inl (.inl e2)
    · rintro i x σ H3 H4 hi ⟨y3, y4, ms', rfl, e1, e2, e3, e4⟩ ⟨T, x1, x2, rfl, nT, rfl, f1, f2⟩
      cases f1
      obtain ⟨z, hz, rfl⟩ := at_map f2
      rw [List.length_map] at hi
      have hun : u < ns.length := cutL_has (k := u) (hi := some 63) (by rw [hr2]; omega)
      have hml := mu hun
      have nTc : c ≠ T := ne_of_none e3 nT
      have nTp : p ≠ T := ne_of_none e2 nT
      refine ⟨T, _, rfl, .inl (.inl upd_same), rfl, _, _, rfl, _, _, rfl, rfl, ?_⟩
      have hlt : i % u < ms'.length := by
        rw [e4, hml]
        exact Nat.mod_lt _ h0
      have e3' : upd H3 T (.tup [.int (i : Nat), .int z]) c = some (.lst (ms'.map V.int)) := (upd_ne nTc).trans e3
      have eim : ((i : Int) % (u : Int)) = ((i % u : Nat) : Int) := (Int.natCast_emod i u).symm
      have hi2 : i < 63 := by
        have q1 := cutL_le ns (some (u : Int)) (some 63)
        rw [hr2] at q1
        omega
      refine ⟨.ref c, rfl, _, rfl, _, rfl, _, _, rfl, rfl, (by show (0 : Int) < u; omega), c, _, _, .int ms'[i % u], rfl, rfl, .inl (.inl e3'), (by rw [eim]; exact atI_nat (ix_map (List.getElem?_eq_getElem hlt))), ?_⟩
      refine ⟨_, rfl, _, rfl, _, _, rfl, rfl, _, _, rfl, rfl, .inr ⟨by omega, by omega⟩, _, _, rfl, rfl, ?_⟩
      refine ⟨.ref c, rfl, _, rfl, _, rfl, _, _, rfl, rfl, (by show (0 : Int) < u; omega), c, _, _, i % u, rfl, rfl, e3', ?_, ?_⟩
      · rw [eim, List.length_map]
        unfold ixN
        rw [if_pos (by omega), if_pos (by omega), Int.toNat_natCast]
      · refine ⟨_, _, ms'.set (i % u) (ms'[i % u] + z * ((i : Int) + 2)), rfl, fun b o e => ?_, ?_, ?_, ?_⟩
        · rw [upd_ne (ne_of_none e nc)]
          exact same_upd nT _ _ (e1 b o e)
        · rw [upd_ne (Ne.symm npc), upd_ne nTp]
          exact e2
        · rw [upd_same, ← set_map]
        · rw [List.length_set]
          exact e4
    · rintro σ H3 ⟨y3, y4, ms', rfl, e1, e2, e3, e4⟩
      refine ⟨.ref c, rfl, ?_⟩
      rw [hD]
      exact q c ms' H3 e1 nc e3 (by omega) (by omega)
  -- cells = list(script[:u]) or [0]
  refine ⟨.ref a, rfl, .int u, rfl, u, rfl, a, _, rfl, ha, fun p hp => ?_⟩
  rw [cutV_map, cutL_to]
  refine ⟨p, _, rfl, .inl (.inl (.inl upd_same)), fun l hl => ?_⟩
  have s2 : Same H (upd H p (.lst ((ns.take u).map V.int))) := same_upd hp
  have s3 := s2.trans (same_upd (o := .lst ((ns.take u).map V.int)) hl)
  refine ⟨_, .inl ⟨_, .inl (.inl upd_same), rfl⟩, ?_⟩
  refine ite2 (fun z => ?_) (fun z => ?_)
  · have hne : 0 < ns.length := by
      cases ns with
      | nil => rw [List.take_nil] at z; cases z
      | cons n r => exact Nat.succ_pos _
    refine rest l (ns.take u) _ s3 (s2.free hl) upd_same ?_ ?_ ?_ _ rfl
    · rw [List.length_take]
      omega
    · rw [List.length_take]
      omega
    · intro z
      rw [List.length_take]
      omega
  · have hne : ns.length = 0 := by
      cases ns with
      | nil => rfl
      | cons n r =>
        have e : u = (u - 1) + 1 := by omega
        rw [e, List.take_succ_cons] at z
        exact absurd rfl z
    refine ⟨(by show 1 ≤ sizeLine; decide), fun c hc => ?_⟩
    exact rest c [0] _ (s3.trans (same_upd hc)) (s3.free hc) upd_same (by decide) (by decide) (fun z => absurd z (by omega)) _ rfl
/-! ### _law_names -/
abbrev sNames : Stmt := topS 47
abbrev nNames : List Str := ["_law_box_here", "_law_many", "_law_letters", "_law_first", "_law_found", "_law_stem", "_law_step", "_law_few", "_law_k", "_law_cut", "_law_name", "_law_turn"]
theorem scNames : FnScope nNames ["_law_box_here", "_law_many"] (defScope sNames) := ⟨rfl, rfl, rfl, by decide +kernel, rfl, by decide +kernel, by decide +kernel⟩
theorem ok_names {f : Addr} {fd : FuncData} (B : Blt mg) (CT : Cal P w K mg base 1 "_law_take" ["_law_box_here", "_law_many"] spTake) (F : Fun K "_law_names" "_law_names" sNames f fd) : FnOk P w K mg base CX0 2 f fd ["_law_box_here", "_law_many"] spNames := by
  refine fok F scNames (fun vs H Q E h => ?_) (fun cdv A outer s H vs Q E hr h => ?_)
  · obtain ⟨b, many, rfl, _⟩ := h
    rfl
  obtain ⟨b, many, rfl, hb, hm, q⟩ := h
  refine ⟨_, pss_cons (ps_asg (pe_tup (pa_cons pe_str (pa_cons (pe_cal CT hr (pa_cons (pv 0) (pa_cons pe_int pa_nil))) (pa_cons (pe_lst pa_nil) pa_nil)))) (pg_tup rfl (pgs_cons (pg_name (i := 2) scNames.nd rfl (.inr rfl)) (pgs_cons (pg_name (i := 3) scNames.nd rfl (.inl rfl)) (pgs_cons (pg_name (i := 4) scNames.nd rfl (.inl rfl)) pgs_nil)))))
    (pss_cons (ps_set (i := 5) scNames.nd rfl (.inl rfl) (pe_join pe_str
      (pe_lc (own := [("_law_turn", 11)]) (g := gName 11) (tt := tYes) rfl scNames.nd (pi_range1 (by rfl) B.range (pa_cons (pe_cal CT hr (pa_cons (pv 0) (pa_cons pe_int pa_nil))) pa_nil)) (blkOk_by (N := nNames) (sc := defScope sNames) (by decide +kernel)) (fun _ _ _ _ _ => pg_name (i := 11) scNames.nd rfl (Or.inl rfl)) (fun _ _ _ _ _ => pts_nil)
        (fun _ _ _ _ _ => pe_ix ix_str (pv 2) (pe_cal CT hr (pa_cons (pv 0) (pa_cons pe_int pa_nil))) (fun _ _ => rfl)))))
    (pss_cons (ps_par (i := 6) (j := 7) (by rfl) scNames.nd rfl rfl (by decide) rfl rfl (pa_cons (pe_ix ix_list (pe_lst (pa_cons pe_int (pa_cons pe_int (pa_cons pe_int (pa_cons pe_int pa_nil))))) (pe_cal CT hr (pa_cons (pv 0) (pa_cons pe_int pa_nil))) (fun _ _ => rfl)) (pa_cons (pe_callTy call_int1 (by rfl) B.int (by decide +kernel) (pa_cons (pe_cmpR op_eq (pe_op op_mod (pv 3) pe_int) pe_int (nomark _)) pa_nil)) pa_nil)) (by rfl))
    (pss_cons (ps_for PassesOwn.never rfl (pi_range1 (by rfl) B.range (pa_cons (pv 1) pa_nil)) (pg_name (i := 8) scNames.nd rfl (.inl rfl))
      (pss_cons (ps_set (i := 9) scNames.nd rfl (.inl rfl) (pe_op op_sub (pe_callB call_len_str (by rfl) B.len PySem.boot_len (pa_cons (pv 5) pa_nil)) (pe_op op_mul (pv 7) (pe_op op_mod (pv 8) pe_int))))
      (pss_cons (ps_set (i := 10) scNames.nd rfl (.inl rfl) (pe_op op_add_str (pe_slice sl_str (pv 5) po_none (po_some (pv 9))) (pe_ix ix_str (pv 2) (pe_op op_mod (pe_op op_add (pv 3) (pe_op op_mul (pv 6) (pv 8))) pe_int) (fun _ _ => rfl))))
      (pss_one (ps_expr (pe_bm PySem.F.plainAttrs_list PySem.F.slot_list_insert PySem.F.type_list_insert mt_insert (pv 4) (pa_cons (pe_cal CT hr (pa_cons (pv 0) (pa_cons (pe_op op_add (pe_callB call_len_seq (by rfl) B.len PySem.boot_len (pa_cons (pv 4) pa_nil)) pe_int) pa_nil))) (pa_cons (pv 10) pa_nil))))))))
    (pss_one (ps_ret (pv 4)))))), ?_⟩
  -- letters, first, found
  refine ⟨.ref b, rfl, b, 26, rfl, hb, by decide, by decide, fun first H1 o1 b1 f0 f1 => ⟨(by show 0 ≤ sizeLine; decide), fun l hl => ?_⟩⟩
  refine ⟨(by show 3 ≤ sizeLine; decide), fun t ht => ?_⟩
  have nlb : l ≠ b := b1.ne_none hl
  have ntl : t ≠ l := fun z => by rw [z, upd_same] at ht; cases ht
  have ntb : t ≠ b := fun z => by
    rw [z, upd_ne (Ne.symm nlb)] at ht
    exact b1.ne_none ht rfl
  have nl : H l = none := o1.free nlb hl
  refine ⟨t, _, rfl, .inl (.inl upd_same), rfl, _, _, rfl, _, _, rfl, _, _, rfl, rfl, ?_⟩
  dsimp only
  generalize hH2 : upd (upd H1 l (.lst [])) t (.tup [.str (Str.ofString "abcdefghijklmnopqrstuvwxyz"), .int first, .ref l]) = H2
  have o2 : Oth b H H2 := o1.trans (fun a o n e => by
    rw [← hH2]
    exact same_upd ht _ _ (same_upd hl _ _ e))
  have b2 : IsBox H2 b := by
    rw [← hH2]
    exact (b1.same (same_upd hl)).same (same_upd ht)
  have l2 : H2 l = some (.lst []) := by
    rw [← hH2, upd_ne (Ne.symm ntl), upd_same]
  -- stem
  refine ⟨⟨_, rfl⟩, .ref b, rfl, b, 8, rfl, b2, by decide, by decide, fun n H3 o3 b3 n0 n1 => ⟨n, rfl, by omega, by omega, fun D hD => ?_⟩⟩
  have nDb : D ≠ b := b3.ne_none hD
  have l3 : H3 l = some (.lst []) := o3 _ _ nlb l2
  have nDl : l ≠ D := ne_of_none l3 hD
  refine lc_it (walk_range (lo := 0) (n := n.toNat)) (fun i H' => ∃ ys : List Str, Oth b H H' ∧ IsBox H' b ∧ H' l = some (.lst []) ∧ H' D = some (.lst (ys.map V.str)) ∧ ys.length = i ∧ ∀ y ∈ ys, IsOne y) ?_ (fun _ _ _ _ => trivial) ?_ ?_
  · refine ⟨[], fun a o na e => ?_, b3.same (same_upd hD), (upd_ne nDl).trans l3, upd_same, rfl, fun _ h => nomatch h⟩
    exact same_upd hD _ _ (o3 _ _ na (o2 _ _ na e))
  · rintro i x H4 H5 hi ⟨ys, o4, b4, l4, d4, y1, y2⟩ ⟨rfl, rfl⟩
    refine ⟨rfl, ⟨.str abc, rfl, .ref b, rfl, b, 26, rfl, b4, by decide, by decide, fun v H6 o6 b6 v0 v1 => ⟨abc, v, 97 + v.toNat, rfl, rfl, (by rw [abc_len]; decide), abc_ix v0 v1, ys.map V.str, o6 _ _ nDb d4, ?_, ?_⟩⟩⟩
    · rw [List.length_map]
      exact small1000 (by omega)
    · have s6 : ∀ a o, a ≠ D → H6 a = some o → upd H6 D (.lst (ys.map V.str ++ [.str ⟨#[97 + v.toNat]⟩])) a = some o := fun a o na e => by rw [upd_ne na]; exact e
      refine ⟨ys ++ [⟨#[97 + v.toNat]⟩], fun a o na e => ?_, ?_, s6 _ _ nDl (o6 _ _ nlb l4), ?_, ?_, ?_⟩
      · have q6 := o6 _ _ na (o4 _ _ na e)
        by_cases z : a = D
        · subst z
          have q3 := o3.free nDb hD
          rw [o2 _ _ na e] at q3
          cases q3
        · exact s6 _ _ z q6
      · obtain ⟨i1, i2, i3, e⟩ := b6
        exact ⟨i1, i2, i3, s6 _ _ (Ne.symm nDb) e⟩
      · rw [upd_same, List.map_append]
        rfl
      · rw [List.length_append, y1]
        rfl
      · intro y hy
        rcases List.mem_append.mp hy with z | z
        · exact y2 y z
        · have e : y = ⟨#[97 + v.toNat]⟩ := by simpa using z
          exact ⟨v.toNat, by omega, e⟩
  · rintro H4 ⟨ys, o4, b4, l4, d4, y1, y2⟩
    have z1 := ones_len y2
    refine ⟨_, D, ys, rfl, rfl, .inl (.inl (.inl d4)), ?_, ?_⟩
    · rw [z1]
      have z2 : (Str.ofString "").length = 0 := by decide +kernel
      rw [z2]
      omega
    have w1 := ones_flat y2
    rw [← join0] at w1
    generalize Txt.join (Str.ofString "") ys = stem at w1
    have w2 : (tlx stem).length ≤ 7 := by rw [w1.1]; omega
    have w3 : Low (tlx stem) := w1.2
    clear w1 z1
    -- step, few
    refine ⟨(by show 4 ≤ sizeLine; decide), fun p hp => ⟨.ref b, rfl, b, 4, rfl, b4.same (same_upd hp), by decide, by decide, fun v H5 o5 b5 v0 v1 => ?_⟩⟩
    obtain ⟨step, hst, hat⟩ := menu4 v0 v1
    have npb : p ≠ b := b4.ne_none hp
    have o5' : Oth b H H5 := fun a o na e => o5 _ _ na (same_upd hp _ _ (o4 _ _ na e))
    have l5 : H5 l = some (.lst []) := o5 _ _ nlb (same_upd hp _ _ l4)
    refine ⟨p, _, v, .int step, rfl, rfl, .inl (.inl (o5 _ _ npb upd_same)), hat, ?_⟩
    refine ⟨.int first, rfl, _, _, rfl, rfl, (by show (0 : Int) < 4; decide), rfl, .inr ⟨_, rfl, _, _, rfl, ?_⟩⟩
    generalize hk : (decide (V.int (first % 4) = V.int 3)) = kf
    have hf := bit2 kf
    generalize (if kf = true then 1 else 0 : Int) = few at hf
    -- the loop
    refine ⟨.int many, rfl, many, rfl, by omega, by omega, ?_⟩
    refine for_it (walk_range (lo := 0) (n := (many : Int).toNat)) (fun i σ H' => ∃ (y8 y9 y10 y11 : Option V) (names : List Str), σ = [some (.ref b), some (.int many), some (.str abc), some (.int first), some (.ref l), some (.str stem), some (.int step), some (.int few), y8, y9, y10, y11] ∧ Oth b H H' ∧ IsBox H' b ∧ H' l = some (.lst (names.map V.str)) ∧ names.length = i ∧ names.Nodup ∧ ∀ x ∈ names, NameOk x ∧ ∃ j : Nat, j < i ∧ lastC x = some (97 + ((first + step * (j : Int)) % 26).toNat)) ?_ (fun _ _ _ _ _ => trivial) ?_ ?_
    · exact ⟨_, _, _, _, [], rfl, o5', b5, l5, rfl, List.nodup_nil, fun _ h => nomatch h⟩
    · rintro i x σ H7 H6 hi ⟨y8, y9, y10, y11, names, rfl, o6, b6, l6, m1, m2, m3⟩ ⟨rfl, rfl⟩
      have hi2 : i < 26 := by omega
      have hsl : stem.length ≤ sizeLine := by rw [len_tlx]; exact small_le (by omega)
      refine ⟨_, rfl, _, rfl, hsl, _, rfl, _, rfl, _, _, rfl, rfl, (by show (0 : Int) < 3; decide), _, _, rfl, rfl, .inl ⟨by omega, by omega⟩, _, _, rfl, rfl, ?_⟩
      dsimp only
      generalize (stem.length : Int) - few * ((0 + (i : Int)) % 3) = cut
      have c0 : 0 ≤ (first + step * (0 + (i : Int))) % 26 := Int.emod_nonneg _ (by decide)
      have c1 : (first + step * (0 + (i : Int))) % 26 < 26 := Int.emod_lt_of_pos _ (by decide)
      refine ⟨_, rfl, _, rfl, cut, rfl, stem, rfl, hsl, _, rfl, _, rfl, _, rfl, _, rfl, _, _, rfl, rfl, ?_, _, _, rfl, rfl, _, _, rfl, rfl, (by show (0 : Int) < 26; decide), abc, _, _, rfl, rfl, (by rw [abc_len]; decide), abc_ix c0 c1, _, _, rfl, rfl, ?_, ?_⟩
      · rcases hst with rfl | rfl | rfl | rfl <;> exact .inl (by decide)
      · rw [len_tlx, cutS_tlx]
        have z := cutL_le (tlx stem) none (some cut)
        exact small_le (by show _ + 1 ≤ 1000; omega)
      rw [Int.zero_add] at c0 c1 ⊢
      have nok : NameOk (cutS stem none (some cut) ++ ⟨#[97 + ((first + step * (i : Int)) % 26).toNat]⟩) := name_ok w2 w3 (by omega)
      have nla := lastC_app (cutS stem none (some cut)) (97 + ((first + step * (i : Int)) % 26).toNat)
      generalize (cutS stem none (some cut) ++ ⟨#[97 + ((first + step * (i : Int)) % 26).toNat]⟩ : Str) = nm at nok nla
      have hnew : nm ∉ names := fun hm2 => by
        obtain ⟨_, j, hj, ej⟩ := m3 nm hm2
        rw [nla] at ej
        have q1 := Option.some.inj ej
        have q2 := apart hst hj hi2 first
        have q3 : 0 ≤ (first + step * (j : Int)) % 26 := Int.emod_nonneg _ (by decide)
        omega
      -- found.insert(take(box, len(found) + 1), name)
      have L6 : SqL K H6 l (names.map V.str) := .inl (.inl l6)
      refine ⟨.ref l, rfl, .inl ⟨rfl, _, L6⟩, .ref b, rfl, .ref l, rfl, l, _, rfl, .inl L6, _, _, rfl, rfl, b, _, rfl, b6, by omega, ?_, fun v H8 o8 b8 v0 v1 => ?_⟩
      · rw [List.length_map]
        omega
      have l8 : H8 l = some (.lst (names.map V.str)) := o8 _ _ nlb l6
      refine ⟨_, rfl, l, _, v, _, rfl, rfl, l8, ?_, v0, ?_, ?_⟩
      · rw [List.length_map]
        exact small1000 (by omega)
      · rw [List.length_map] at v1
        omega
      have pm := ins_perm names v.toNat nm
      refine ⟨_, _, _, _, names.take v.toNat ++ [nm] ++ names.drop v.toNat, rfl, fun a o na e => ?_, ?_, ?_, ?_, ?_, ?_⟩
      · have e8 := o8 _ _ na (o6 _ _ na e)
        rw [upd_ne (ne_of_none e nl)]
        exact e8
      · obtain ⟨i1, i2, i3, e⟩ := b8
        exact ⟨i1, i2, i3, (upd_ne (Ne.symm nlb)).trans e⟩
      · rw [upd_same, ins_map]
      · rw [pm.length_eq, List.length_cons, m1]
      · exact pm.nodup_iff.mpr (List.nodup_cons.mpr ⟨hnew, m2⟩)
      · intro x hx
        rcases List.mem_cons.mp (pm.mem_iff.mp hx) with rfl | hx
        · exact ⟨nok, i, Nat.lt_succ_self _, nla⟩
        · obtain ⟨z1, j, z2, z3⟩ := m3 x hx
          exact ⟨z1, j, Nat.lt_succ_of_lt z2, z3⟩
    · rintro σ H6 ⟨y8, y9, y10, y11, names, rfl, o6, b6, l6, m1, m2, m3⟩
      exact ⟨.ref l, rfl, q l names H6 o6 b6 nl l6 (by omega) m2 fun x hx => (m3 x hx).1⟩
/-! ### _law_pals -/
abbrev sPals : Stmt := topS 48
abbrev nPals : List Str := ["_law_box_here", "_law_pool", "_law_way", "_law_found", "_law_side", "_law_k", "_law_mine", "_law_j", "_law_fine", "_law_name"]
theorem scPals : FnScope nPals ["_law_box_here", "_law_pool"] (defScope sPals) := ⟨rfl, rfl, rfl, by decide +kernel, rfl, by decide +kernel, by decide +kernel⟩
theorem ok_pals {f : Addr} {fd : FuncData} (B : Blt mg) (CT : Cal P w K mg base 1 "_law_take" ["_law_box_here", "_law_many"] spTake) (F : Fun K "_law_pals" "_law_pals" sPals f fd) : FnOk P w K mg base CX0 2 f fd ["_law_box_here", "_law_pool"] spPals := by
  refine fok F scPals (fun vs H Q E h => ?_) (fun cdv A outer s H vs Q E hr h => ?_)
  · obtain ⟨b, l, pool, rfl, _⟩ := h
    rfl
  obtain ⟨b, l, pool, rfl, hb, hl, hnd, hn, q⟩ := h
  refine ⟨_, pss_cons (ps_par (i := 2) (j := 3) (by rfl) scPals.nd rfl rfl (by decide) rfl rfl (pa_cons (pe_cal CT hr (pa_cons (pv 0) (pa_cons pe_int pa_nil))) (pa_cons (pe_lst pa_nil) pa_nil)) (by rfl))
    (pss_cons (ps_setLc (i := 4) (own := [("_law_name", 9)]) (g := gName 9) (tt := tYes) rfl scPals.nd rfl rfl (sw_true rfl rfl rfl (by decide +kernel)) (pi_list (pv 1)) (blkOk_by (N := nPals) (sc := defScope sPals) (by decide +kernel)) (fun _ _ _ _ _ => pg_name (i := 9) scPals.nd rfl (Or.inl rfl)) (fun _ _ _ _ _ => pts_nil)
        (fun _ _ _ _ _ => pe_cal CT hr (pa_cons (pv 0) (pa_cons pe_int pa_nil))))
    (pss_cons (ps_for PassesOwn.never rfl (pi_enum (by rfl) B.enumerate (pa_cons (pv 1) pa_nil)) (pg_tup rfl (pgs_cons (pg_name (i := 5) scPals.nd rfl (.inl rfl)) (pgs_cons (pg_name (i := 6) scPals.nd rfl (.inl rfl)) pgs_nil)))
      (pss_one (ps_for PassesOwn.never rfl (pi_range1 (by rfl) B.range (pa_cons (pv 5) pa_nil)) (pg_name (i := 7) scPals.nd rfl (.inl rfl))
        (pss_cons (ps_set (i := 8) scPals.nd rfl (.inl rfl) (pe_mid (pe_ix ix_list (pe_lst (pa_cons (pe_cmpR op_eq (pe_cal CT hr (pa_cons (pv 0) (pa_cons pe_int pa_nil))) pe_int (nomark _)) (pa_cons (pe_cmpR op_eq (pe_cal CT hr (pa_cons (pv 0) (pa_cons pe_int pa_nil))) pe_int (nomark _)) (pa_cons (pe_cmpR op_gt (pe_cal CT hr (pa_cons (pv 0) (pa_cons pe_int pa_nil))) pe_int (nomark _)) pa_nil)))) (pe_op op_mod (pv 2) pe_int) (fun _ _ => rfl))))
        (pss_cons (ps_set (i := 8) scPals.nd rfl (.inl rfl) (pe_mid (pe_ifExp (pt_cmpR op_eq (pv 2) pe_int (nomark _)) (pe_cmpR op_eq (pe_ix ix_list (pv 4) (pv 5) (fun _ _ => rfl)) (pe_ix ix_list (pv 4) (pv 7) (fun _ _ => rfl)) (nomark _)) (pv 8))))
        (pss_one (ps_if (pt_val (pv 8)) (pss_one (ps_expr (pe_bm PySem.F.plainAttrs_list PySem.F.slot_list_append PySem.F.type_list_append mt_append (pv 3) (pa_cons (pe_tup (pa_cons (pe_callB (call_minS rfl) (by rfl) B.min (by decide +kernel) (pa_cons (pv 6) (pa_cons (pe_ix ix_list (pv 1) (pv 7) (fun _ _ => rfl)) pa_nil))) (pa_cons (pe_callB (call_maxS rfl) (by rfl) B.max (by decide +kernel) (pa_cons (pv 6) (pa_cons (pe_ix ix_list (pv 1) (pv 7) (fun _ _ => rfl)) pa_nil))) pa_nil))) pa_nil)))) pss_nil)))))))
    (pss_one (ps_ret (pe_callTy call_tuple_of (by rfl) B.tuple (by decide +kernel) (pa_cons (pe_callB (cr_sortedTT hr.units) (by rfl) B.sorted (by decide +kernel) (pa_cons (pv 3) pa_nil)) pa_nil)))))), ?_⟩
  have nlb : l ≠ b := hb.ne_strs hl
  -- way, found
  refine ⟨.ref b, rfl, b, 6, rfl, hb, by decide, by decide, fun way H1 o1 b1 w0 w1 => ⟨(by show 0 ≤ sizeLine; decide), fun fa hfa => ⟨_, _, rfl, ?_⟩⟩⟩
  have nfb : fa ≠ b := b1.ne_none hfa
  have nf : H fa = none := o1.free nfb hfa
  have l1 : H1 l = some (.lst (pool.map V.str)) := o1 _ _ nlb hl
  have nlf : l ≠ fa := ne_of_none l1 hfa
  have l2 : upd H1 fa (.lst []) l = some (.lst (pool.map V.str)) := (upd_ne nlf).trans l1
  have b2 : IsBox (upd H1 fa (.lst [])) b := b1.same (same_upd hfa)
  have o2 : Oth b H (upd H1 fa (.lst [])) := o1.trans (Oth.of (same_upd hfa))
  have f2 : upd H1 fa (.lst []) fa = some (.lst []) := upd_same
  dsimp only
  generalize upd H1 fa (.lst []) = H2 at *
  -- side
  refine ⟨.ref l, rfl, l, rfl, ⟨_, .inl (.inl l2)⟩, fun sa hsa => ?_⟩
  have nsb : sa ≠ b := b2.ne_none hsa
  have nsl : l ≠ sa := ne_of_none l2 hsa
  have nsf : fa ≠ sa := ne_of_none f2 hsa
  have ns : H sa = none := o2.free nsb hsa
  refine lc_it (walk_list (xs := pool.map V.str)) (fun i H' => ∃ sd : List Int, Oth b H H' ∧ IsBox H' b ∧ H' l = some (.lst (pool.map V.str)) ∧ H' fa = some (.lst []) ∧ H' sa = some (.lst (sd.map V.int)) ∧ sd.length = i) ?_ ?_ ?_ ?_
  · exact ⟨[], o2.trans (Oth.of (same_upd hsa)), b2.same (same_upd hsa), (upd_ne nsl).trans l2, (upd_ne nsf).trans f2, upd_same, rfl⟩
  · rintro i H' _ ⟨sd, _, _, e, _⟩
    exact .inl (.inl e)
  · rintro i x H4 H3 hi ⟨sd, o3, b3, l3, f3, s3, m3⟩ ⟨rfl, _⟩
    rw [List.length_map] at hi
    refine ⟨rfl, ⟨.ref b, rfl, b, 3, rfl, b3, by decide, by decide, fun v H5 o5 b5 v0 v1 => ⟨sd.map V.int, o5 _ _ nsb s3, ?_, ?_⟩⟩⟩
    · rw [List.length_map]
      exact small1000 (by omega)
    · refine ⟨sd ++ [v], fun a o na e => ?_, ?_, (upd_ne nsl).trans (o5 _ _ nlb l3), (upd_ne nsf).trans (o5 _ _ nfb f3), ?_, ?_⟩
      · rw [upd_ne (ne_of_none e ns)]
        exact o5 _ _ na (o3 _ _ na e)
      · obtain ⟨i1, i2, i3, e⟩ := b5
        exact ⟨i1, i2, i3, (upd_ne (Ne.symm nsb)).trans e⟩
      · rw [upd_same, List.map_append]
        rfl
      · rw [List.length_append, m3]
        rfl
  rintro H3 ⟨sd, o3, b3, l3, f3, s3, m3⟩
  rw [List.length_map] at m3
  -- the loops
  have hw : way = 0 ∨ way = 1 ∨ way = 2 ∨ way = 3 ∨ way = 4 ∨ way = 5 := by omega
  refine ⟨.ref l, rfl, l, _, rfl, .inl (.inl l3), ?_⟩
  refine for_it (walk_enum (xs := pool.map V.str)) (fun i σ H' => ∃ (y5 y6 y7 y8 y9 : Option V) (bs : List B3), σ = [some (.ref b), some (.ref l), some (.int way), some (.ref fa), some (.ref sa), y5, y6, y7, y8, y9] ∧ Oth b H H' ∧ IsBox H' b ∧ H' l = some (.lst (pool.map V.str)) ∧ H' fa = some (.lst (refs bs)) ∧ H' sa = some (.lst (sd.map V.int)) ∧ PairsAt H' bs ∧ OfPool pool (bs.map (·.2)) ∧ bs.length ≤ 26 * i) ?_ ?_ ?_ ?_
  · exact ⟨_, _, _, _, _, [], rfl, o3, b3, l3, f3, s3, (fun _ h => nomatch h), (fun _ h => nomatch h), Nat.zero_le _⟩
  · rintro i σ H' _ ⟨y5, y6, y7, y8, y9, bs, _, _, _, e, _⟩
    exact .inl (.inl e)
  · rintro i x σ H4 H5 hi ⟨y5, y6, y7, y8, y9, bs, rfl, o4, b4, l4, f4, s4, p4, g4, c4⟩ ⟨T, x1, x2, rfl, nT, rfl, e1, e2⟩
    rw [List.length_map] at hi
    cases e1
    obtain ⟨mine, hmine, rfl⟩ := at_map e2
    have sT : Same H4 (upd H4 T (.tup [.int (i : Nat), .str mine])) := same_upd nT
    refine ⟨T, _, rfl, .inl (.inl upd_same), rfl, _, _, rfl, _, _, rfl, rfl, ?_⟩
    refine ⟨_, rfl, i, rfl, by omega, by omega, ?_⟩
    refine for_it (walk_range (lo := 0) (n := (i : Int).toNat)) (fun j σ H' => ∃ (y7 y8 y9 : Option V) (bs : List B3), σ = [some (.ref b), some (.ref l), some (.int way), some (.ref fa), some (.ref sa), some (.int i), some (.str mine), y7, y8, y9] ∧ Oth b H H' ∧ IsBox H' b ∧ H' l = some (.lst (pool.map V.str)) ∧ H' fa = some (.lst (refs bs)) ∧ H' sa = some (.lst (sd.map V.int)) ∧ PairsAt H' bs ∧ OfPool pool (bs.map (·.2)) ∧ bs.length ≤ 26 * i + j) ?_ (fun _ _ _ _ _ => trivial) ?_ ?_
    · exact ⟨_, _, _, bs, rfl, o4.trans (Oth.of sT), b4.same sT, sT _ _ l4, sT _ _ f4, sT _ _ s4, p4.same sT, g4, by omega⟩
    · rintro j x σ H7 H6 hj ⟨y7, y8, y9, bs, rfl, o6, b6, l6, f6, s6, p6, g6, c6⟩ ⟨rfl, rfl⟩
      have hj2 : j < i := by omega
      obtain ⟨sj, hsj⟩ : ∃ v, sd[j]? = some v := ⟨sd[j]'(by omega), List.getElem?_eq_getElem _⟩
      obtain ⟨si, hsi⟩ : ∃ v, sd[i]? = some v := ⟨sd[i]'(by omega), List.getElem?_eq_getElem _⟩
      obtain ⟨pj, hpj⟩ : ∃ v, pool[j]? = some v := ⟨pool[j]'(by omega), List.getElem?_eq_getElem _⟩
      -- fine, by a draw
      refine ⟨fun v H8 => (∃ fb : Bool, v = .bl fb) ∧ Oth b H6 H8 ∧ IsBox H8 b, ?_, ?_⟩
      · refine ⟨.ref b, rfl, b, 4, rfl, b6, by decide, by decide, fun v1 h1 q1 c1 _ _ => ⟨rfl, .ref b, rfl, b, 2, rfl, c1, by decide, by decide, fun v2 h2 q2 c2 _ _ => ⟨rfl, .ref b, rfl, b, 4, rfl, c2, by decide, by decide, fun v3 h3 q3 c3 _ _ => ⟨_, _, rfl, rfl, (by show 3 ≤ sizeLine; decide), fun p hp => ?_⟩⟩⟩⟩
        have k0 : 0 ≤ way % 3 := Int.emod_nonneg _ (by decide)
        have k1 : way % 3 < 3 := Int.emod_lt_of_pos _ (by decide)
        have ox : Oth b H6 (upd h3 p (.lst [.bl (decide (V.int v1 = V.int 0)), .bl (decide (V.int v2 = V.int 0)), .bl (decide (v3 > 0))])) := ((q1.trans q2).trans q3).trans (Oth.of (same_upd hp))
        have bx : IsBox (upd h3 p (.lst [.bl (decide (V.int v1 = V.int 0)), .bl (decide (V.int v2 = V.int 0)), .bl (decide (v3 > 0))])) b := c3.same (same_upd hp)
        have km : way % 3 = ((0 : Nat) : Int) ∨ way % 3 = ((1 : Nat) : Int) ∨ way % 3 = ((2 : Nat) : Int) := by omega
        rcases km with km | km | km
        · exact ⟨_, rfl, _, _, rfl, rfl, (by show (0 : Int) < 3; decide), p, _, _, _, rfl, rfl, .inl (.inl upd_same), (by rw [km]; exact atI_nat (j := 0) rfl), ⟨_, rfl⟩, ox, bx⟩
        · exact ⟨_, rfl, _, _, rfl, rfl, (by show (0 : Int) < 3; decide), p, _, _, _, rfl, rfl, .inl (.inl upd_same), (by rw [km]; exact atI_nat (j := 1) rfl), ⟨_, rfl⟩, ox, bx⟩
        · exact ⟨_, rfl, _, _, rfl, rfl, (by show (0 : Int) < 3; decide), p, _, _, _, rfl, rfl, .inl (.inl upd_same), (by rw [km]; exact atI_nat (j := 2) rfl), ⟨_, rfl⟩, ox, bx⟩
      rintro v H8 ⟨⟨fb, rfl⟩, o8, b8⟩
      have l8 := o8 _ _ nlb l6
      have f8 := o8 _ _ nfb f6
      have s8 := o8 _ _ nsb s6
      have p8 := p6.oth o8 b6
      have o8' := o6.trans o8
      -- fine, by sides
      refine ⟨fun v H9 => (∃ fb : Bool, v = .bl fb) ∧ H9 = H8, ?_, ?_⟩
      · refine ⟨_, rfl, rfl, _, rfl, ite2 (fun _ => ?_) (fun _ => ?_)⟩
        · exact ⟨_, rfl, _, rfl, sa, _, _, _, rfl, rfl, .inl (.inl s8), atI_nat (ix_map hsi), _, rfl, _, rfl, sa, _, _, _, rfl, rfl, .inl (.inl s8), (by rw [Int.zero_add]; exact atI_nat (ix_map hsj)), rfl, ⟨_, rfl⟩, rfl⟩
        · exact ⟨_, rfl, ⟨_, rfl⟩, rfl⟩
      rintro v H9 ⟨⟨fb2, rfl⟩, rfl⟩
      refine ⟨_, rfl, fb2, rfl, ite2 (fun _ => ?_) (fun _ => ?_)⟩
      · refine ⟨.ref fa, rfl, .inl ⟨rfl, _, .inl (.inl f8)⟩, _, rfl, _, rfl, _, rfl, l, _, _, _, rfl, rfl, .inl (.inl l8), (by rw [Int.zero_add]; exact atI_nat (ix_map hpj)), _, _, rfl, _, rfl, _, rfl, _, rfl, l, _, _, _, rfl, rfl, .inl (.inl l8), (by rw [Int.zero_add]; exact atI_nat (ix_map hpj)), _, _, rfl, (by show 2 ≤ sizeLine; decide), fun t ht => ?_⟩
        have st : Same H9 (upd H9 t (.tup [.str (lmin mine pj), .str (lmax mine pj)])) := same_upd ht
        have f9 := st _ _ f8
        have ntf : t ≠ fa := (ne_of_none f8 ht).symm
        refine ⟨fa, _, _, rfl, rfl, f9, ?_, ?_⟩
        · show (bs.map _).length < _
          rw [List.length_map]
          exact small1000 (by omega)
        · refine ⟨_, _, _, bs ++ [(t, lmin mine pj, lmax mine pj)], rfl, fun a o na e => ?_, ?_, ?_, ?_, ?_, ?_, ?_, ?_⟩
          · rw [upd_ne (ne_of_none e nf)]
            exact st _ _ (o8' _ _ na e)
          · obtain ⟨i1, i2, i3, e⟩ := b8
            exact ⟨i1, i2, i3, (upd_ne (Ne.symm nfb)).trans (st _ _ e)⟩
          · exact (upd_ne nlf).trans (st _ _ l8)
          · rw [upd_same]
            show _ = some (HO.lst ((bs ++ [_]).map _))
            rw [List.map_append]
            rfl
          · exact (upd_ne (Ne.symm nsf)).trans (st _ _ s8)
          · intro c hc
            rcases List.mem_append.mp hc with z | z
            · have e := st _ _ (p8 c z)
              rw [upd_ne (ne_of e f9 (fun z => nomatch z))]
              exact e
            · have ec : c = (t, lmin mine pj, lmax mine pj) := by simpa using z
              rw [ec]
              exact (upd_ne ntf).trans upd_same
          · rw [List.map_append]
            intro p hp
            rcases List.mem_append.mp hp with z | z
            · exact g6 p z
            · have ep : p = (lmin mine pj, lmax mine pj) := by simpa using z
              refine ⟨mine, pj, List.mem_of_getElem? hmine, List.mem_of_getElem? hpj, fun z => ?_, ep⟩
              rw [← z] at hpj
              have := nd_ix hnd hmine hpj
              omega
          · rw [List.length_append]
            show bs.length + 1 ≤ _
            omega
      · exact ⟨_, _, _, bs, rfl, o8', b8, l8, f8, s8, p8, g6, by omega⟩
    · rintro σ H6 ⟨y7, y8, y9, bs, rfl, o6, b6, l6, f6, s6, p6, g6, c6⟩
      exact ⟨_, _, _, _, _, bs, rfl, o6, b6, l6, f6, s6, p6, g6, by omega⟩
  · rintro σ H4 ⟨y5, y6, y7, y8, y9, bs, rfl, o4, b4, l4, f4, s4, p4, g4, c4⟩
    rw [List.length_map] at c4
    refine ⟨_, rfl, fa, bs, rfl, .inl (.inl f4), p4, fun p hp => ?_⟩
    have s5 : Same H4 (upd H4 p (.lst ((bs.mergeSort (PySem.W.dataLe false encP)).map fun b => V.ref b.1))) := same_upd hp
    refine ⟨p, _, rfl, .inl ⟨.inl (.inl upd_same), fun a ha => ?_⟩⟩
    have s6 := s5.trans (same_upd (o := .tup ((bs.mergeSort (PySem.W.dataLe false encP)).map fun b => V.ref b.1)) ha)
    have nab : a ≠ b := (b4.same s5).ne_none ha
    have pm := List.mergeSort_perm bs (PySem.W.dataLe false encP)
    refine q a (bs.mergeSort (PySem.W.dataLe false encP)) _ (o4.trans (Oth.of s6)) (b4.same s6) (o4.free nab (s5.free ha)) upd_same (fun c hc => s6 _ _ (p4 c (pm.mem_iff.mp hc))) (fun p' hp' => g4 p' ((pm.map _).mem_iff.mp hp')) ?_ ⟨bs, rfl⟩
    rw [pm.length_eq]
    omega
/-! ### _law_are -/
abbrev sAre : Stmt := topS 49
theorem scAre : FnScope ["_law_pals_here", "_law_mine", "_law_its"] ["_law_pals_here", "_law_mine", "_law_its"] (defScope sAre) := ⟨rfl, rfl, rfl, by decide +kernel, rfl, by decide +kernel, by decide +kernel⟩
theorem ok_are {f : Addr} {fd : FuncData} (B : Blt mg) (F : Fun K "_law_are" "_law_are" sAre f fd) : FnOk P w K mg base CX0 1 f fd ["_law_pals_here", "_law_mine", "_law_its"] spAre := by
  refine fok F scAre (fun vs H Q E h => ?_) (fun cdv A outer s H vs Q E hr h => ?_)
  · obtain ⟨a, ps, x, y, rfl, _⟩ := h
    rfl
  obtain ⟨a, ps, x, y, rfl, ha, ho, gx, gy, q⟩ := h
  refine ⟨_, pss_one (ps_ret (pe_cmpR (op_inT (u65 hr)) (pe_tup (pa_cons (pe_callB (call_minS rfl) (by rfl) B.min (by decide +kernel) (pa_cons (pv 1) (pa_cons (pv 2) pa_nil))) (pa_cons (pe_callB (call_maxS rfl) (by rfl) B.max (by decide +kernel) (pa_cons (pv 1) (pa_cons (pv 2) pa_nil))) pa_nil))) (pv 0) (by rfl))), ?_⟩
  refine ⟨_, rfl, _, rfl, _, _, rfl, _, rfl, _, rfl, _, _, rfl, (by show 2 ≤ sizeLine; decide), fun t ht => ?_⟩
  have st : Same H (upd H t (.tup [.str (lmin x y), .str (lmax x y)])) := same_upd ht
  refine ⟨_, rfl, _, _, dp_tuple (xs := [lmin x y, lmax x y]) upd_same, dp_pals (ha.same st), sh_pair (p := (lmin x y, lmax x y)) ⟨lmin_good gx gy, lmax_good gx gy⟩, sh_pals ho.good, ?_⟩
  have e := any_pair ps (lmin x y, lmax x y)
  rw [frd_pair ho] at e
  have e2 : ((ps.map encQ).any fun z => PyData.eqv z (.tuple ([lmin x y, lmax x y].map .str))) = frd ps x y := e
  rw [e2]
  exact q _ st
/-! ### _law_come -/
abbrev sCome : Stmt := topS 50
abbrev nCome : List Str := ["_law_pals_here", "_law_stand", "_law_name", "_law_spot", "_law_k", "_law_its", "_law_known"]
theorem scCome : FnScope nCome ["_law_pals_here", "_law_stand", "_law_name"] (defScope sCome) := ⟨rfl, rfl, rfl, by decide +kernel, rfl, by decide +kernel, by decide +kernel⟩
theorem ok_come {f : Addr} {fd : FuncData} (B : Blt mg) (CA : Cal P w K mg base 1 "_law_are" ["_law_pals_here", "_law_mine", "_law_its"] spAre) (F : Fun K "_law_come" "_law_come" sCome f fd) : FnOk P w K mg base CX0 2 f fd ["_law_pals_here", "_law_stand", "_law_name"] spCome := by
  refine fok F scCome (fun vs H Q E h => ?_) (fun cdv A outer s H vs Q E hr h => ?_)
  · obtain ⟨a, t, ps, stand, x, rfl, _⟩ := h
    rfl
  obtain ⟨a, t, ps, stand, x, rfl, ha, ho, ht, gs, gx, hn, q⟩ := h
  refine ⟨_, pss_cons (ps_set (i := 3) scCome.nd rfl (.inl rfl) (pe_callB call_len_seq (by rfl) B.len PySem.boot_len (pa_cons (pv 1) pa_nil)))
    (pss_cons (ps_for PassesOwn.never rfl (pi_enumT (by rfl) B.enumerate (pa_cons (pv 1) pa_nil)) (pg_tup rfl (pgs_cons (pg_name (i := 4) scCome.nd rfl (.inl rfl)) (pgs_cons (pg_name (i := 5) scCome.nd rfl (.inl rfl)) pgs_nil)))
      (pss_one (ps_if (pt_val (pe_cal CA hr (pa_cons (pv 0) (pa_cons (pv 2) (pa_cons (pv 5) pa_nil))))) (pss_one (ps_set (i := 3) scCome.nd rfl (.inl rfl) (pe_op op_add (pv 4) pe_int))) pss_nil)))
    (pss_cons (ps_setLc (i := 6) (own := [("_law_its", 5)]) (g := gName 5) (tt := tB (tCall spAre [] E0 (tCons (tVar 0) (tCons (tVar 2) (tCons (tVar 5) tNil))))) rfl scCome.nd rfl rfl (sw_true rfl rfl rfl (by decide +kernel)) (pi_tup (pv 1)) (blkOk_by (N := nCome) (sc := defScope sCome) (by decide +kernel)) (fun _ _ _ _ _ => pg_name (i := 5) scCome.nd rfl (Or.inl rfl))
        (fun _ _ _ _ _ => pts_one (pt_val (pe_cal CA hr (pa_cons (pv 0) (pa_cons (pv 2) (pa_cons (pv 5) pa_nil)))))) (fun _ _ _ _ _ => pv 5))
    (pss_cons (ps_set (i := 3) scCome.nd rfl (.inl rfl) (pe_mid (pe_ifExp (pt_cmpR (op_neNil hr.units) (pv 6) (pe_lst pa_nil) (nomark _)) (pv 3) (pe_callB call_len_seq (by rfl) B.len PySem.boot_len (pa_cons (pv 1) pa_nil)))))
    (pss_one (ps_ret (pe_op op_catM (pe_op op_catM (pe_slice sl_tupM (pv 1) po_none (po_some (pv 3))) (pe_tupF (pa_cons (pv 2) pa_nil))) (pe_slice sl_tupM (pv 1) (po_some (pv 3)) po_none))))))), ?_⟩
  -- spot = len(stand)
  refine ⟨.ref t, rfl, t, _, rfl, .inr ht.sq, ?_⟩
  rw [List.length_map]
  -- the loop
  refine ⟨.ref t, rfl, t, _, rfl, ht.sq, ?_⟩
  refine for_it (walk_enumT (xs := stand.map V.str)) (fun i σ H' => ∃ (y4 y5 y6 : Option V), σ = [some (.ref a), some (.ref t), some (.str x), some (.int (match lastP (frd ps x) (stand.take i) with | some k => ((k + 1 : Nat) : Int) | none => (stand.length : Int))), y4, y5, y6] ∧ Same H H') ?_ ?_ ?_ ?_
  · exact ⟨_, _, _, rfl, Same.refl H⟩
  · rintro i σ H' _ ⟨y4, y5, y6, _, s1⟩
    exact (ht.same s1).sq
  · rintro i v σ H1 H2 hi ⟨y4, y5, y6, rfl, s1⟩ ⟨T, x1, x2, rfl, nT, rfl, e1, e2⟩
    cases e1
    obtain ⟨its, hits, rfl⟩ := at_map e2
    have s2 := s1.trans (same_upd (o := .tup [.int (i : Nat), .str its]) nT)
    refine ⟨T, _, rfl, .inl (.inl upd_same), rfl, _, _, rfl, _, _, rfl, rfl, ?_⟩
    refine ⟨_, rfl, _, rfl, _, rfl, a, ps, x, its, rfl, ha.same s2, ho, gx, gs.at_ hits, fun H3 s3 => ⟨_, rfl, ?_⟩⟩
    have lt := lastP_take (frd ps x) hits
    refine ite2 (fun c => ?_) (fun c => ?_)
    · rw [if_pos c] at lt
      refine ⟨_, rfl, _, _, rfl, rfl, some (.int (i : Nat)), some (.str its), y6, ?_, s2.trans s3⟩
      rw [lt]
      rfl
    · rw [if_neg c] at lt
      refine ⟨some (.int (i : Nat)), some (.str its), y6, ?_, s2.trans s3⟩
      rw [lt]
      rfl
  rintro σ H1 ⟨y4, y5, y6, rfl, s1⟩
  rw [List.length_map, List.take_of_length_le (Nat.le_refl _)]
  -- known
  refine ⟨.ref t, rfl, t, rfl, ⟨_, (ht.same s1).sq⟩, fun D hD => ?_⟩
  have nD : H D = none := s1.free hD
  refine lc_it (walk_tup (xs := stand.map V.str)) (fun i H' => Same H H' ∧ H' D = some (.lst (((stand.take i).filter (frd ps x)).map V.str))) ?_ ?_ ?_ ?_
  · exact ⟨s1.trans (same_upd hD), upd_same⟩
  · rintro i H' _ ⟨s2, _⟩
    exact (ht.same s2).sq
  · rintro i v H3 H2 hi ⟨s2, d2⟩ ⟨rfl, e2⟩
    obtain ⟨its, hits, rfl⟩ := at_map e2
    rw [List.length_map] at hi
    have ft : (stand.take (i + 1)).filter (frd ps x) = (stand.take i).filter (frd ps x) ++ if frd ps x its = true then [its] else [] := by
      rw [List.take_add_one, hits, List.filter_append]
      show _ ++ List.filter (frd ps x) [its] = _
      rw [List.filter_cons, List.filter_nil]
    refine ⟨rfl, _, rfl, _, rfl, _, rfl, a, ps, x, its, rfl, ha.same s2, ho, gx, gs.at_ hits, fun H4 s4 => ⟨_, rfl, ?_⟩⟩
    refine ite2 (fun c => ?_) (fun c => ?_)
    · rw [if_pos c] at ft
      refine ⟨_, rfl, _, s4 _ _ d2, ?_, fun b o e => ?_, ?_⟩
      · rw [List.length_map]
        exact small1000 (Nat.le_trans (List.length_filter_le _ _) (by rw [List.length_take]; omega))
      · rw [upd_ne (ne_of_none e nD)]
        exact s4 _ _ (s2 _ _ e)
      · rw [upd_same, ft, List.map_append]
        rfl
    · rw [if_neg c, List.append_nil] at ft
      exact ⟨s2.trans s4, by rw [ft]; exact s4 _ _ d2⟩
  rintro H2 ⟨s2, d2⟩
  rw [List.length_map, List.take_of_length_le (Nat.le_refl _)] at d2
  have t2 := ht.same s2
  -- spot
  refine ⟨fun v H' => v = .int (spotOf ps stand x : Nat) ∧ Same H H', ?_, ?_⟩
  · refine ⟨_, rfl, (by show 0 ≤ sizeLine; decide), fun p hp => ⟨D, p, _, rfl, rfl, same_upd hp _ _ d2, upd_same, gs.filter, _, rfl, ?_⟩⟩
    have s3 := s2.trans (same_upd (o := .lst []) hp)
    unfold spotOf
    refine ite2 (fun c => ?_) (fun c => ?_)
    · refine ⟨_, rfl, ?_, s3⟩
      cases e : lastP (frd ps x) stand with
      | none =>
        exact absurd (lastP_nil.mp e) (of_decide_eq_false (by simpa using c))
      | some k => rfl
    · refine ⟨.ref t, rfl, t, _, rfl, .inr (t2.same (same_upd hp)).sq, ?_, s3⟩
      rw [List.length_map]
      cases e : lastP (frd ps x) stand with
      | none => rfl
      | some k =>
        have z : ¬ stand.filter (frd ps x) = [] := fun z => by rw [lastP_nil.mpr z] at e; cases e
        rw [decide_eq_false z] at c
        first | exact absurd rfl c | exact c.elim rfl | skip
  rintro v H3 ⟨rfl, s3⟩
  have t3 := ht.same s3
  refine ⟨.ref t, rfl, _, rfl, _, rfl, t, _, rfl, t3, fun t1 H4 s4 e4 => ?_⟩
  rw [cutV_map, cutL_to] at e4
  refine ⟨_, rfl, (by show 1 ≤ sizeLine; decide), fun p Hp sp hp tp => ?_⟩
  refine ⟨t1, p, _, _, rfl, rfl, e4.same sp, tp, ?_, fun t5 H5 s5 e5 => ?_⟩
  · rw [List.length_map, List.length_take]
    exact small_le (by show _ + 1 ≤ 1000; omega)
  have s35 := (s4.trans sp).trans s5
  refine ⟨.ref t, rfl, _, rfl, _, rfl, t, _, rfl, t3.same s35, fun t6 H6 s6 e6 => ?_⟩
  rw [cutV_map, cutL_from] at e6
  refine ⟨t5, t6, _, _, rfl, rfl, e5.same s6, e6, ?_, fun t7 H7 s7 e7 => ?_⟩
  · rw [List.length_append, List.length_map, List.length_map, List.length_take, List.length_drop]
    exact small_le (by show _ + 1 + _ ≤ 1000; omega)
  refine q t7 H7 ((s3.trans s35).trans (s6.trans s7)) ?_
  unfold comeTo
  rw [List.map_append, List.map_append]
  exact e7
/-! ### _law_strewn -/
abbrev sStrewn : Stmt := topS 51
abbrev nStrewn : List Str := ["_law_box_here", "_law_some", "_law_found", "_law_name"]
theorem scStrewn : FnScope nStrewn ["_law_box_here", "_law_some"] (defScope sStrewn) := ⟨rfl, rfl, rfl, by decide +kernel, rfl, by decide +kernel, by decide +kernel⟩
theorem ok_strewn {f : Addr} {fd : FuncData} (B : Blt mg) (CT : Cal P w K mg base 1 "_law_take" ["_law_box_here", "_law_many"] spTake) (F : Fun K "_law_strewn" "_law_strewn" sStrewn f fd) : FnOk P w K mg base CX0 2 f fd ["_law_box_here", "_law_some"] spStrewn := by
  refine fok F scStrewn (fun vs H Q E h => ?_) (fun cdv A outer s H vs Q E hr h => ?_)
  · obtain ⟨b, l, pool, rfl, _⟩ := h
    rfl
  obtain ⟨b, l, pool, rfl, hb, hl, hn, q⟩ := h
  have nlb : l ≠ b := hl.elim (fun e => e.ne hb) (fun e => hb.ne_strs e)
  refine ⟨_, pss_cons (ps_set (i := 2) scStrewn.nd rfl (.inl rfl) (pe_lst pa_nil))
    (pss_cons (ps_for PassesOwn.never rfl (pi_or2 (pi_list (pv 1)) (pi_tup (pv 1))) (pg_name (i := 3) scStrewn.nd rfl (.inl rfl))
      (pss_one (ps_expr (pe_bm PySem.F.plainAttrs_list PySem.F.slot_list_insert PySem.F.type_list_insert mt_insert (pv 2) (pa_cons (pe_cal CT hr (pa_cons (pv 0) (pa_cons (pe_op op_add (pe_callB call_len_seq (by rfl) B.len PySem.boot_len (pa_cons (pv 2) pa_nil)) pe_int) pa_nil))) (pa_cons (pv 3) pa_nil))))))
    (pss_one (ps_ret (pv 2)))), ?_⟩
  refine ⟨(by show 0 ≤ sizeLine; decide), fun fa hfa => ?_⟩
  have s0 : Same H (upd H fa (.lst [])) := same_upd hfa
  have nfb : fa ≠ b := hb.ne_none hfa
  have nlf : l ≠ fa := hl.elim (fun e => e.ne_new hfa) (fun e => ne_of_none e hfa)
  have turn : ∀ (i : Nat) (x : Str) (σ : L2.St) (H1 : Hp), pool[i]? = some x → (∃ (order : List Str) (y3 : Option V), σ = [some (.ref b), some (.ref l), some (.ref fa), y3] ∧ Oth b H H1 ∧ IsBox H1 b ∧ RowAt H1 l pool ∧ H1 fa = some (.lst (order.map V.str)) ∧ order.Perm (pool.take i)) → ∀ (D : Ends), D.nx = (fun σ H1 => ∃ (order : List Str) (y3 : Option V), σ = [some (.ref b), some (.ref l), some (.ref fa), y3] ∧ Oth b H H1 ∧ IsBox H1 b ∧ RowAt H1 l pool ∧ H1 fa = some (.lst (order.map V.str)) ∧ order.Perm (pool.take (i + 1))) →
      (tDrop (tBM K "list" (fun x vs H Q => ∃ l xs i y, x = .ref l ∧ vs = [.int i, y] ∧ H l = some (.lst xs) ∧ xs.length < sizeLine ∧ 0 ≤ i ∧ i < 2 ^ 63 ∧ Q .non (upd H l (.lst (xs.take i.toNat ++ [y] ++ xs.drop i.toNat)))) (tVar 2) (tCons (tCall spTake [] E0 (tCons (tVar 0) (tCons (tOp (rI0 fun i j => .int (i + j)) (tCB (fun xs H Q => ∃ p ys, xs = [.ref p] ∧ (SqL K H p ys ∨ SqT K H p ys) ∧ Q (.int ys.length) H) (tCons (tVar 2) tNil)) (tC (.int 1))) tNil))) (tCons (tVar 3) tNil)))) D (σ.set 3 (some (.str x))) H1 := by
    rintro i x σ H1 hx ⟨order, y3, rfl, o1, b1, l1, f1, p1⟩ D hD
    have hi : i < pool.length := (List.getElem?_eq_some_iff.mp hx).1
    have ol : order.length = i := by
      rw [p1.length_eq, List.length_take]
      omega
    have L1 : SqL K H1 fa (order.map V.str) := .inl (.inl f1)
    refine ⟨.ref fa, rfl, .inl ⟨rfl, _, L1⟩, .ref b, rfl, .ref fa, rfl, fa, _, rfl, .inl L1, _, _, rfl, rfl, b, _, rfl, b1, by omega, ?_, fun v H2 o2 b2 v0 v1 => ?_⟩
    · rw [List.length_map]
      omega
    have f2 : H2 fa = some (.lst (order.map V.str)) := o2 _ _ nfb f1
    refine ⟨_, rfl, fa, _, v, _, rfl, rfl, f2, ?_, v0, ?_, ?_⟩
    · rw [List.length_map]
      exact small1000 (by omega)
    · rw [List.length_map] at v1
      omega
    rw [hD]
    have pm := ins_perm order v.toNat x
    refine ⟨order.take v.toNat ++ [x] ++ order.drop v.toNat, _, rfl, fun a o na e => ?_, ?_, ?_, ?_, ?_⟩
    · rw [upd_ne (ne_of_none e hfa)]
      exact o2 _ _ na (o1 _ _ na e)
    · obtain ⟨i1, i2, i3, e⟩ := b2
      exact ⟨i1, i2, i3, (upd_ne (Ne.symm nfb)).trans e⟩
    · exact l1.elim (fun e => .inl ((e.oth o2 b1).upd_ f2)) (fun e => .inr ((upd_ne nlf).trans (o2 _ _ nlb e)))
    · rw [upd_same, ins_map]
    · refine pm.trans ((p1.cons x).trans ?_)
      rw [List.take_add_one, hx]
      exact (List.perm_append_singleton x (pool.take i)).symm
  have fin : ∀ (σ : L2.St) (H1 : Hp), (∃ (order : List Str) (y3 : Option V), σ = [some (.ref b), some (.ref l), some (.ref fa), y3] ∧ Oth b H H1 ∧ IsBox H1 b ∧ RowAt H1 l pool ∧ H1 fa = some (.lst (order.map V.str)) ∧ order.Perm (pool.take (pool.map V.str).length)) → ∃ v, σ[2]? = some (some v) ∧ Q v H1 := by
    rintro σ H1 ⟨order, y3, rfl, o1, b1, l1, f1, p1⟩
    rw [List.length_map, List.take_of_length_le (Nat.le_refl _)] at p1
    exact ⟨.ref fa, rfl, q fa order H1 o1 b1 hfa f1 p1⟩
  rcases hl with e | e
  · refine .inr ⟨.ref l, rfl, l, rfl, ⟨_, (e.same s0).sq⟩, ?_⟩
    refine for_it (walk_tup (xs := pool.map V.str)) (fun i σ H1 => ∃ (order : List Str) (y3 : Option V), σ = [some (.ref b), some (.ref l), some (.ref fa), y3] ∧ Oth b H H1 ∧ IsBox H1 b ∧ RowAt H1 l pool ∧ H1 fa = some (.lst (order.map V.str)) ∧ order.Perm (pool.take i)) ?_ ?_ ?_ ?_
    · exact ⟨[], _, rfl, Oth.of s0, hb.same s0, .inl (e.same s0), upd_same, List.Perm.refl _⟩
    · rintro i σ H1 _ ⟨order, y3, _, o1, _⟩
      exact (e.oth o1 hb).sq
    · rintro i v σ H2 H1 hi pv ⟨rfl, e2⟩
      obtain ⟨x, hx, rfl⟩ := at_map e2
      exact turn i x σ _ hx pv _ rfl
    · exact fin
  · refine .inl ⟨.ref l, rfl, l, rfl, ⟨_, .inl (.inl (s0 _ _ e))⟩, ?_⟩
    refine for_it (walk_list (xs := pool.map V.str)) (fun i σ H1 => ∃ (order : List Str) (y3 : Option V), σ = [some (.ref b), some (.ref l), some (.ref fa), y3] ∧ Oth b H H1 ∧ IsBox H1 b ∧ RowAt H1 l pool ∧ H1 fa = some (.lst (order.map V.str)) ∧ order.Perm (pool.take i)) ?_ ?_ ?_ ?_
    · exact ⟨[], _, rfl, Oth.of s0, hb.same s0, .inr (s0 _ _ e), upd_same, List.Perm.refl _⟩
    · rintro i σ H1 _ ⟨order, y3, _, o1, _⟩
      exact .inl (.inl (o1 _ _ nlb e))
    · rintro i v σ H2 H1 hi pv ⟨rfl, e2⟩
      obtain ⟨x, hx, rfl⟩ := at_map e2
      exact turn i x σ _ hx pv _ rfl
    · exact fin
/-! ### _law_same -/
abbrev sSame : Stmt := topS 53
abbrev nSame : List Str := ["_law_found", "_law_due"]
theorem scSame : FnScope nSame nSame (defScope sSame) := ⟨rfl, rfl, rfl, by decide +kernel, rfl, by decide +kernel, by decide +kernel⟩
theorem ok_sameR {f : Addr} {fd : FuncData} (B : Blt mg) (F : Fun K "_law_same" "_law_same" sSame f fd) : FnOk P w K mg base CX0 1 f fd nSame (spSameR K) := by
  refine fok F scSame (fun vs H Q E h => ?_) (fun cdv A outer s H vs Q E hr h => ?_)
  · obtain ⟨x, y, d, rfl, _⟩ := h
    rfl
  obtain ⟨x, y, d, rfl, h1, h2, q⟩ := h
  refine ⟨_, pss_one (ps_ret (pe_cmpR op_eq (pe_callB (call_reprS hr) (by rfl) B.repr (by decide +kernel) (pa_cons (pv 0) pa_nil)) (pe_callB (call_reprS hr) (by rfl) B.repr (by decide +kernel) (pa_cons (pv 1) pa_nil)) (nomark _))), ?_⟩
  refine ⟨x, rfl, x, d, rfl, h1, y, rfl, y, d, rfl, h2, rfl, ?_⟩
  rw [decide_eq_true rfl]
  exact q H (Same.refl H)
/-! ### both_ways -/
abbrev sBoth : Stmt := topS 1
abbrev nBoth : List Str := ["friends", "known", "one", "other"]
theorem scBoth : FnScope nBoth ["friends"] (defScope sBoth) := ⟨rfl, rfl, rfl, by decide +kernel, rfl, by decide +kernel, by decide +kernel⟩
theorem ok_both {f : Addr} {fd : FuncData} (F : Fun K "both_ways" "both_ways" sBoth f fd) : FnOk P w K mg base CX0 1 f fd ["friends"] spBoth := by
  refine fok F scBoth (fun vs H Q E h => ?_) (fun cdv A outer s H vs Q E hr h => ?_)
  · obtain ⟨a, ps, rfl, _⟩ := h
    rfl
  obtain ⟨a, ps, rfl, ⟨bs, ha, hp, rfl⟩, hn, q⟩ := h
  rw [List.length_map] at hn
  have hu := hu_of hr
  refine ⟨_, pss_cons (ps_set (i := 1) scBoth.nd rfl (.inl rfl) pe_dnewT)
    (pss_cons (ps_for PassesOwn.never rfl (pi_or2 (pi_list (pv 0)) (pi_tup (pv 0))) (pg_tup rfl (pgs_cons (pg_name (i := 2) scBoth.nd rfl (.inl rfl)) (pgs_cons (pg_name (i := 3) scBoth.nd rfl (.inl rfl)) pgs_nil)))
      (pss_cons (ps_dput hu (pv 1) (pe_tup (pa_cons (pv 2) (pa_cons (pv 3) pa_nil))) pe_bl rfl)
      (pss_one (ps_dput hu (pv 1) (pe_tup (pa_cons (pv 3) (pa_cons (pv 2) pa_nil))) pe_bl rfl))))
    (pss_one (ps_ret (pv 1)))), ?_⟩
  refine fun d hd => ?_
  have s0 : Same H (upd H d (.dT [])) := same_upd hd
  have Pv : ∃ Pv : Nat → L2.St → Hp → Prop, Pv = fun i σ H' => ∃ (y2 y3 : Option V) (kvs : List (List Key × V)), σ = [some (.ref a), some (.ref d), y2, y3] ∧ Same H H' ∧ H' d = some (.dT kvs) ∧ kvs.length ≤ 2 * i ∧ ∀ x y, (valV kvs (k2 x y)).isSome = frd ((bs.map (·.2)).take i) x y := ⟨_, rfl⟩
  obtain ⟨Pv, hPv⟩ := Pv
  have start : Pv 0 [some (.ref a), some (.ref d), none, none] (upd H d (.dT [])) := by
    rw [hPv]
    exact ⟨_, _, [], rfl, s0, upd_same, Nat.zero_le _, fun x y => rfl⟩
  have turn : ∀ (i : Nat) (c : B3) (σ : L2.St) (H1 : Hp), bs[i]? = some c → Pv i σ H1 → ∀ (D : Ends), D.nx = Pv (i + 1) →
      (tSeq (sDPut (tVar 1) (tTup (tCons (tVar 2) (tCons (tVar 3) tNil))) (tC (.bl true))) (sDPut (tVar 1) (tTup (tCons (tVar 3) (tCons (tVar 2) tNil))) (tC (.bl true)))) D ((σ.set 2 (some (.str c.2.1))).set 3 (some (.str c.2.2))) H1 := by
    intro i c σ H1 hc pv D hD
    rw [hPv] at pv
    obtain ⟨y2, y3, kvs, rfl, s1, e1, l1, v1⟩ := pv
    have hi : i < bs.length := (List.getElem?_eq_some_iff.mp hc).1
    refine ⟨_, rfl, _, rfl, _, rfl, (by show 2 ≤ sizeLine; decide), fun p hp' => ?_⟩
    have n1 : d ≠ p := ne_of_none e1 hp'
    have e2 : upd H1 p (.tup [.str c.2.1, .str c.2.2]) d = some (.dT kvs) := (upd_ne n1).trans e1
    refine ⟨d, _, rfl, DPut.t (k := k2 c.2.1 c.2.2) e2 upd_same (small9 (by omega)), ?_⟩
    have pl := putK_len (kvs := kvs) (k := k2 c.2.1 c.2.2) (v := V.bl true)
    refine ⟨_, rfl, _, rfl, _, rfl, (by show 2 ≤ sizeLine; decide), fun p2 hp2 => ?_⟩
    have n2 : d ≠ p2 := fun z => by rw [← z, upd_same] at hp2; cases hp2
    refine ⟨d, _, rfl, DPut.t (k := k2 c.2.2 c.2.1) ((upd_ne n2).trans upd_same) upd_same (small9 (by omega)), ?_⟩
    have pl2 := putK_len (kvs := putK kvs (k2 c.2.1 c.2.2) (V.bl true)) (k := k2 c.2.2 c.2.1) (v := V.bl true)
    rw [hD, hPv]
    refine ⟨_, _, _, rfl, fun b o e => ?_, upd_same, by omega, fun x y => ?_⟩
    · have nb : b ≠ d := ne_of_none e hd
      rw [upd_ne nb]
      refine same_upd hp2 _ _ ?_
      rw [upd_ne nb]
      exact same_upd hp' _ _ (s1 _ _ e)
    · rw [both_put v1, List.take_add_one, List.getElem?_map, hc]
      rfl
  have fin : ∀ (σ : L2.St) (H1 : Hp), Pv (refs bs).length σ H1 → ∃ v, σ[1]? = some (some v) ∧ Q v H1 := by
    intro σ H1 pv
    rw [hPv] at pv
    obtain ⟨y2, y3, kvs, rfl, s1, e1, l1, v1⟩ := pv
    refine ⟨.ref d, rfl, q d H1 s1 hd ⟨kvs, e1, fun x y => ?_⟩⟩
    rw [v1, List.take_of_length_le (by show (bs.map _).length ≤ (bs.map _).length; rw [List.length_map, List.length_map]; exact Nat.le_refl _)]
  have item : ∀ (i : Nat) (v : V) (σ : L2.St) (H1 : Hp), (refs bs)[i]? = some v → Pv i σ H1 → ∃ c : B3, bs[i]? = some c ∧ v = .ref c.1 ∧ H1 c.1 = some (.tup [.str c.2.1, .str c.2.2]) := by
    intro i v σ H1 e pv
    rw [hPv] at pv
    obtain ⟨y2, y3, kvs, rfl, s1, e1, l1, v1⟩ := pv
    obtain ⟨c, hc, rfl⟩ := at_map e
    exact ⟨c, hc, rfl, s1 _ _ (hp c (List.mem_of_getElem? hc))⟩
  have stay : ∀ (i : Nat) (σ : L2.St) (H1 : Hp), Pv i σ H1 → Same H H1 := by
    intro i σ H1 pv
    rw [hPv] at pv
    obtain ⟨y2, y3, kvs, rfl, s1, _⟩ := pv
    exact s1
  rcases ha with e | e
  · refine .inr ⟨.ref a, rfl, a, rfl, ⟨_, .inl (.inl (s0 _ _ e))⟩, ?_⟩
    refine for_it (walk_tup (xs := refs bs)) Pv start (fun i σ H1 _ pv => .inl (.inl (stay i σ H1 pv _ _ e))) ?_ fin
    rintro i v σ H2 H1 hi pv ⟨rfl, e2⟩
    obtain ⟨c, hc, rfl, h3⟩ := item i v σ _ e2 pv
    exact ⟨c.1, _, rfl, .inl (.inl h3), rfl, _, _, rfl, _, _, rfl, rfl, turn i c σ _ hc pv _ rfl⟩
  · refine .inl ⟨.ref a, rfl, a, rfl, ⟨_, .inl (.inl (s0 _ _ e))⟩, ?_⟩
    refine for_it (walk_list (xs := refs bs)) Pv start (fun i σ H1 _ pv => .inl (.inl (stay i σ H1 pv _ _ e))) ?_ fin
    rintro i v σ H2 H1 hi pv ⟨rfl, e2⟩
    obtain ⟨c, hc, rfl, h3⟩ := item i v σ _ e2 pv
    exact ⟨c.1, _, rfl, .inl (.inl h3), rfl, _, _, rfl, _, _, rfl, rfl, turn i c σ _ hc pv _ rfl⟩
/-! ### last_friend_place -/
abbrev sLfp : Stmt := topS 2
abbrev nLfp : List Str := ["known", "row", "who", "places", "place", "other"]
theorem scLfp : FnScope nLfp ["known", "row", "who"] (defScope sLfp) := ⟨rfl, rfl, rfl, by decide +kernel, rfl, by decide +kernel, by decide +kernel⟩
theorem ok_lfp {f : Addr} {fd : FuncData} (B : Blt mg) (F : Fun K "last_friend_place" "last_friend_place" sLfp f fd) : FnOk P w K mg base CX0 1 f fd ["known", "row", "who"] spLfp := by
  refine fok F scLfp (fun vs H Q E h => ?_) (fun cdv A outer s H vs Q E hr h => ?_)
  · obtain ⟨d, r, ps, row, who, rfl, _⟩ := h
    rfl
  obtain ⟨d, r, ps, row, who, rfl, hd, hrow, hn, q⟩ := h
  have hu := hu_of hr
  refine ⟨_, pss_cons (ps_setLc (i := 3) (own := [("place", 4), ("other", 5)]) (g := gTup K 2 (gCons (gName 4) (gCons (gName 5) gNil))) (tt := tB (tDIn (tTup (tCons (tVar 2) (tCons (tVar 5) tNil))) (tVar 0))) rfl scLfp.nd rfl rfl (sw_true rfl rfl rfl (by decide +kernel)) (pi_or2 (pi_enum (by rfl) B.enumerate (pa_cons (pv 1) pa_nil)) (pi_enumT (by rfl) B.enumerate (pa_cons (pv 1) pa_nil))) (blkOk_by (N := nLfp) (sc := defScope sLfp) (by decide +kernel))
        (fun _ _ _ _ _ => pg_tup rfl (pgs_cons (pg_name (i := 4) scLfp.nd rfl (Or.inl rfl)) (pgs_cons (pg_name (i := 5) scLfp.nd rfl (Or.inl rfl)) pgs_nil)))
        (fun _ _ _ _ _ => pts_one (pt_cmp (pc_din hu (pe_tup (pa_cons (pv 2) (pa_cons (pv 5) pa_nil))) (pv 0)))) (fun _ _ _ _ _ => pv 4))
    (pss_one (ps_ret (pe_ifExp (pt_truth (pv 3) (by intro _; rfl)) (pe_ix ix_list (pv 3) (pe_un un_neg pe_int) (fun _ _ => rfl)) pe_non))), ?_⟩
  have key : ∀ (J : It) (G : Hp → Prop), Walk J (row.map V.str).length G (YPair (fun i => some (.int (i : Nat))) (fun i => (row.map V.str)[i]?)) → (∀ H', Same H H' → G H') → ∀ D, H D = none → ∀ (Qd : Hp → Prop), (∀ H' (ls : List Int), Same H H' → H' D = some (.lst (ls.map V.int)) → ls.getLast? = (lastP (frd ps who) row).map (fun k => (k : Int)) → Qd H') →
      ∃ W : Nat → Nat → Hp → Prop, (∃ m, W 0 m (upd H D (.lst []))) ∧ ∀ i m H, W i m H →
      (J.stop i H ∧ Qd H) ∨ (J.go i H ∧ ∃ Nx : Hp → Prop, (∀ H', Nx H' → ∃ m', m' < m ∧ W (i + 1) m' H') ∧ ∀ x H', J.yld i H x H' → (gTup K 2 (gCons (gName 4) (gCons (gName 5) gNil))) x (wipe [some (.ref d), some (.ref r), some (.str who), none, none, none] [4, 5]) H' fun σ2 H2 => wipe σ2 [4, 5] = wipe [some (.ref d), some (.ref r), some (.str who), none, none, none] [4, 5] ∧ (tB (tDIn (tTup (tCons (tVar 2) (tCons (tVar 5) tNil))) (tVar 0))) σ2 H2 fun b H3 =>
        if b = true then (tVar 4) σ2 H3 fun y H4 => ∃ acc, H4 D = some (.lst acc) ∧ acc.length < sizeLine ∧ Nx (upd H4 D (.lst (acc ++ [y]))) else Nx H3) := by
    intro J G wk hG D hD Qd fin
    refine lc_it wk (fun i H' => ∃ ls : List Int, Same H H' ∧ H' D = some (.lst (ls.map V.int)) ∧ ls.length ≤ i ∧ ls.getLast? = (lastP (frd ps who) (row.take i)).map (fun k => (k : Int))) ?_ ?_ ?_ ?_
    · exact ⟨[], same_upd hD, upd_same, Nat.zero_le _, rfl⟩
    · rintro i H' _ ⟨ls, s1, _⟩
      exact hG H' s1
    · rintro i v H1 H2 hi ⟨ls, s1, d1, m1, g1⟩ ⟨T, x1, x2, rfl, nT, rfl, e1, e2⟩
      cases e1
      obtain ⟨o, ho, rfl⟩ := at_map e2
      rw [List.length_map] at hi
      have s2 := s1.trans (same_upd (o := .tup [.int (i : Nat), .str o]) nT)
      refine ⟨T, _, rfl, .inl (.inl upd_same), rfl, _, _, rfl, _, _, rfl, rfl, rfl, ?_⟩
      refine ⟨_, rfl, _, rfl, (by show 2 ≤ sizeLine; decide), fun p hp => ?_⟩
      have s3 := s2.trans (same_upd (o := .tup [.str who, .str o]) hp)
      obtain ⟨kvs, k1, k3⟩ := hd.same s3
      have nDT : D ≠ T := ne_of_none d1 nT
      have d2 : upd H1 T (.tup [.int (i : Nat), .str o]) D = some (.lst (ls.map V.int)) := (upd_ne nDT).trans d1
      have nDp : D ≠ p := ne_of_none d2 hp
      have d3 := (upd_ne (o := .tup [.str who, .str o]) nDp).trans d2
      refine ⟨.ref d, rfl, d, _, rfl, DGet.t (k := k2 who o) k1 upd_same, _, rfl, ?_⟩
      rw [k3]
      have lt := lastP_take (frd ps who) ho
      refine ite2 (fun c => ?_) (fun c => ?_)
      · rw [if_pos c] at lt
        refine ⟨_, rfl, _, d3, ?_, ls ++ [(i : Int)], fun b o' e => ?_, ?_, ?_, ?_⟩
        · rw [List.length_map]
          exact small1000 (by omega)
        · rw [upd_ne (ne_of_none e hD)]
          exact s3 _ _ e
        · rw [upd_same, List.map_append]
          rfl
        · rw [List.length_append]
          show ls.length + 1 ≤ i + 1
          omega
        · rw [lt, List.getLast?_append]
          rfl
      · rw [if_neg c] at lt
        exact ⟨ls, s3, d3, by omega, by rw [lt]; exact g1⟩
    · rintro H1 ⟨ls, s1, d1, m1, g1⟩
      rw [List.length_map, List.take_of_length_le (Nat.le_refl _)] at g1
      exact fin H1 ls s1 d1 g1
  have last : ∀ (D : Addr) (H' : Hp) (ls : List Int), Same H H' → H' D = some (.lst (ls.map V.int)) → ls.getLast? = (lastP (frd ps who) row).map (fun k => (k : Int)) →
      (tRet (tIf (fun σ H Q => tVar 3 σ H fun x H1 => ∃ k, TruV K x H1 k ∧ Q k H1) (tOp (rIxL K) (tVar 3) (tUn (rU fun i => .int (-i)) (tC (.int 1)))) (tC .non))) { nx := fun _ H' => Q .non H', rt := Q } [some (.ref d), some (.ref r), some (.str who), some (.ref D), none, none] H' := by
    intro D H' ls s1 d1 g1
    refine ⟨.ref D, rfl, _, .inl ⟨_, .inl (.inl d1), rfl⟩, ite2 (fun c => ?_) (fun c => ?_)⟩
    · obtain ⟨z, hz⟩ : ∃ z, ls.getLast? = some z := by
        cases h : ls.getLast? with
        | some z => exact ⟨z, rfl⟩
        | none =>
          rw [List.getLast?_eq_none_iff.mp h] at c
          cases c
      obtain ⟨ys, hz'⟩ := List.getLast?_eq_some_iff.mp hz
      have ev : lfpV (lastP (frd ps who) row) = .int z := by
        rw [hz] at g1
        cases e : lastP (frd ps who) row with
        | none => rw [e] at g1; cases g1
        | some k =>
          rw [e] at g1
          have : z = (k : Int) := Option.some.inj g1
          rw [this]
          rfl
      refine ⟨.ref D, rfl, 1, rfl, D, _, -1, .int z, rfl, rfl, .inl (.inl d1), ?_, ?_⟩
      · rw [hz', List.map_append]
        exact atI_last _ _
      · rw [← ev]
        exact q H' s1
    · have e : lfpV (lastP (frd ps who) row) = .non := by
        cases h : lastP (frd ps who) row with
        | none => rfl
        | some k =>
          rw [h] at g1
          cases ls with
          | nil => cases g1
          | cons x r => exact absurd rfl c
      show Q .non H'
      rw [← e]
      exact q H' s1
  rcases hrow with e | e
  · refine .inr ⟨.ref r, rfl, r, _, rfl, e.sq, fun D hD => ?_⟩
    exact key _ _ walk_enumT (fun H' s => (e.same s).sq) D hD _ (fun H' ls s1 d1 g1 => last D H' ls s1 d1 g1)
  · refine .inl ⟨.ref r, rfl, r, _, rfl, .inl (.inl e), fun D hD => ?_⟩
    exact key _ _ walk_enum (fun H' s => .inl (.inl (s _ _ e))) D hD _ (fun H' ls s1 d1 g1 => last D H' ls s1 d1 g1)
/-! ### bar_words, bars -/
abbrev sBarW : Stmt := topS 4
abbrev nBarW : List Str := ["known", "row", "one", "other", "place", "there", "host", "words"]
theorem scBarW : FnScope nBarW ["known", "row", "one", "other"] (defScope sBarW) := ⟨rfl, rfl, rfl, by decide +kernel, rfl, by decide +kernel, by decide +kernel⟩
theorem ok_barW {f : Addr} {fd : FuncData} (CL : Cal P w K mg base 1 "last_friend_place" ["known", "row", "who"] spLfp) (F : Fun K "bar_words" "bar_words" sBarW f fd) : FnOk P w K mg base CX0 2 f fd ["known", "row", "one", "other"] spBarW := by
  refine fok F scBarW (fun vs H Q E h => ?_) (fun cdv A outer s H vs Q E hr h => ?_)
  · obtain ⟨d, r, ps, row, one, other, i, j, rfl, _⟩ := h
    rfl
  obtain ⟨d, r, ps, row, one, other, i, j, rfl, hd, hrow, hn, nd, hi, hj, q⟩ := h
  have hu := hu_of hr
  refine ⟨_, pss_cons (ps_if (PW.pt (pw_or (pt_cmpR op_notIn_seq (pv 2) (pv 1) (by rfl)) (pw_or1 (pt_cmpR op_notIn_seq (pv 3) (pv 1) (by rfl))))) (pss_one (ps_ret (pe_lst pa_nil))) pss_nil)
    (pss_cons (ps_set (i := 4) scBarW.nd rfl (.inl rfl) (pe_mid (pe_or2 (pe_bm PySem.F.plainAttrs_list PySem.F.slot_list_index PySem.F.type_list_index mt_idxL (pv 1) (pa_cons (pv 2) pa_nil)) (pe_bmT PySem.F.slot_tuple_index PySem.F.type_tuple_index mt_tup_index (pv 1) (pa_cons (pv 2) pa_nil)))))
    (pss_cons (ps_set (i := 5) scBarW.nd rfl (.inl rfl) (pe_mid (pe_or2 (pe_bm PySem.F.plainAttrs_list PySem.F.slot_list_index PySem.F.type_list_index mt_idxL (pv 1) (pa_cons (pv 3) pa_nil)) (pe_bmT PySem.F.slot_tuple_index PySem.F.type_tuple_index mt_tup_index (pv 1) (pa_cons (pv 3) pa_nil)))))
    (pss_cons (ps_set (i := 6) scBarW.nd rfl (.inl rfl) (pe_cal CL hr (pa_cons (pv 0) (pa_cons (pe_mid (pe_slice (sl_or2 sl_list sl_tupM) (pv 1) po_none (po_some (pv 4)))) (pa_cons (pv 2) pa_nil)))))
    (pss_cons (ps_set (i := 7) scBarW.nd rfl (.inl rfl) (pe_lst pa_nil))
    (pss_cons (ps_mid (ps_if (pt_mid (PW.pt (pw_and (pt_cmp (pc_isN (pv 6))) (pw_and1 (pt_cmpR op_lt (pv 4) (pv 5) (nomark _)))))) (pss_one (ps_expr (pe_bm PySem.F.plainAttrs_list PySem.F.slot_list_append PySem.F.type_list_append mt_append (pv 7) (pa_cons pe_str pa_nil)))) pss_nil))
    (pss_cons (ps_mid (ps_if (pt_mid (PW.pt (pw_and (pt_cmp (pc_notN (pv 6))) (pw_and1 (pt_chain op_lt op_lt (pv 6) (pv 5) (pv 4)))))) (pss_one (ps_expr (pe_bm PySem.F.plainAttrs_list PySem.F.slot_list_append PySem.F.type_list_append mt_append (pv 7) (pa_cons pe_str pa_nil)))) pss_nil))
    (pss_cons (ps_mid (ps_if (pt_mid (PW.pt (pw_and (pt_cmpR op_lt (pv 4) (pv 5) (nomark _)) (pw_and1 (pt_cmp (pc_din hu (pe_tup (pa_cons (pv 2) (pa_cons (pv 3) pa_nil))) (pv 0))))))) (pss_one (ps_expr (pe_bm PySem.F.plainAttrs_list PySem.F.slot_list_append PySem.F.type_list_append mt_append (pv 7) (pa_cons pe_str pa_nil)))) pss_nil))
    (pss_one (ps_ret (pv 7)))))))))), ?_⟩
  have sq : SqL K H r (row.map V.str) ∨ SqT K H r (row.map V.str) := hrow.elim (fun e => .inr e.sq) (fun e => .inl (.inl (.inl e)))
  have m1 : one ∈ row := List.mem_of_getElem? hi
  have m2 : other ∈ row := List.mem_of_getElem? hj
  refine ⟨.str one, rfl, .ref r, rfl, r, _, rfl, sq, rfl, flat_strs row, _, rfl, ?_⟩
  rw [inV_strs, decide_eq_true m1]
  refine ⟨.str other, rfl, .ref r, rfl, r, _, rfl, sq, rfl, flat_strs row, _, rfl, ?_⟩
  rw [inV_strs, decide_eq_true m2]
  -- place, there
  refine ⟨fun v H' => v = .int (i : Nat) ∧ H' = H, ?_, ?_⟩
  · rcases hrow with e | e
    · exact .inr ⟨.ref r, rfl, ⟨r, _, rfl, e⟩, _, rfl, r, row, one, i, rfl, rfl, e.sq, hi, nd_first nd hi, rfl, rfl⟩
    · exact .inl ⟨.ref r, rfl, .inl ⟨rfl, _, .inl (.inl e)⟩, _, rfl, r, row, one, i, rfl, rfl, e, hi, nd_first nd hi, rfl, rfl⟩
  rintro v H' ⟨rfl, rfl⟩
  refine ⟨fun v H'' => v = .int (j : Nat) ∧ H'' = H', ?_, ?_⟩
  · rcases hrow with e | e
    · exact .inr ⟨.ref r, rfl, ⟨r, _, rfl, e⟩, _, rfl, r, row, other, j, rfl, rfl, e.sq, hj, nd_first nd hj, rfl, rfl⟩
    · exact .inl ⟨.ref r, rfl, .inl ⟨rfl, _, .inl (.inl e)⟩, _, rfl, r, row, other, j, rfl, rfl, e, hj, nd_first nd hj, rfl, rfl⟩
  rintro v H ⟨rfl, rfl⟩
  -- host
  refine ⟨.ref d, rfl, fun v H' => ∃ r', v = .ref r' ∧ Same H H' ∧ RowAt H' r' (row.take i), ?_, ?_⟩
  · rcases hrow with e | e
    · refine ⟨.ref r, rfl, _, rfl, _, rfl, .inr ⟨r, _, rfl, e, fun t H' s1 e1 => ⟨t, rfl, s1, .inl ?_⟩⟩⟩
      rw [cutV_map, cutL_to] at e1
      exact e1
    · refine ⟨.ref r, rfl, _, rfl, _, rfl, .inl ⟨r, _, rfl, .inl (.inl e), fun p hp => ⟨p, rfl, same_upd hp, .inr ?_⟩⟩⟩
      rw [cutV_map, cutL_to]
      exact upd_same
  rintro v H1 ⟨r', rfl, s1, e1⟩
  refine ⟨.str one, rfl, d, r', ps, row.take i, one, rfl, hd.same s1, e1, (by rw [List.length_take]; omega), fun H2 s2 => ?_⟩
  have d2 := hd.same (s1.trans s2)
  generalize hh : lastP (frd ps one) (row.take i) = host
  -- words
  refine ⟨(by show 0 ≤ sizeLine; decide), fun p hp => ?_⟩
  have np : H p = none := (s1.trans s2).free hp
  have s3 := (s1.trans s2).trans (same_upd (o := .lst []) hp)
  -- one more word, or none
  have app : ∀ (H3 : Hp) (acc : List Str) (c b : Bool) (w : Str) (D : Ends), Same H H3 → H3 p = some (.lst (acc.map V.str)) → acc.length ≤ 10 → b = c → D.nx = (fun σ' H' => σ' = [some (.ref d), some (.ref r), some (.str one), some (.str other), some (.int (i : Nat)), some (.int (j : Nat)), some (lfpV host), some (.ref p)] ∧ Same H H' ∧ H' p = some (.lst ((acc ++ optW c w).map V.str))) →
      if b = true then (tDrop (tBM K "list" rAppend (tVar 7) (tCons (tC (.str w)) tNil))) D [some (.ref d), some (.ref r), some (.str one), some (.str other), some (.int (i : Nat)), some (.int (j : Nat)), some (lfpV host), some (.ref p)] H3 else tNext D [some (.ref d), some (.ref r), some (.str one), some (.str other), some (.int (i : Nat)), some (.int (j : Nat)), some (lfpV host), some (.ref p)] H3 := by
    rintro H3 acc c b w D s e al rfl hD
    refine ite2 (fun z => ?_) (fun z => ?_)
    · refine ⟨.ref p, rfl, .inl ⟨rfl, _, .inl (.inl e)⟩, p, _, _, rfl, rfl, e, (by rw [List.length_map]; exact small1000 (by omega)), ?_⟩
      rw [hD]
      refine ⟨rfl, fun b o e' => ?_, ?_⟩
      · rw [upd_ne (ne_of_none e' np)]
        exact s _ _ e'
      · rw [upd_same, optW, if_pos z, List.map_append]
        rfl
    · show D.nx _ _
      rw [hD]
      refine ⟨rfl, s, ?_⟩
      rw [optW, if_neg z, List.append_nil]
      exact e
  have oneL : ∀ (c : Bool) (w : Str), (optW c w).length ≤ 1 := fun c w => by
    unfold optW
    split
    · exact Nat.le_refl _
    · exact Nat.zero_le _
  have isN : decide (lfpV host = .non) = decide (host = none) := by
    cases host <;> rfl
  -- behind
  refine ⟨fun σ' H' => σ' = [some (.ref d), some (.ref r), some (.str one), some (.str other), some (.int (i : Nat)), some (.int (j : Nat)), some (lfpV host), some (.ref p)] ∧ Same H H' ∧ H' p = some (.lst (([] ++ optW (decide (host = none) && decide (i < j)) "behind").map V.str)), ?_, ?_⟩
  · refine ⟨fun b H' => b = (decide (host = none) && decide (i < j)) ∧ H' = upd H2 p (.lst []), ?_, ?_⟩
    · refine ⟨_, rfl, _, rfl, ?_⟩
      rw [isN]
      refine ite2 (fun z => ?_) (fun z => ?_)
      · refine ⟨_, rfl, _, rfl, _, _, rfl, rfl, _, rfl, ?_, rfl⟩
        rw [z, Bool.true_and]
        exact decide_eq_decide.mpr (by omega)
      · refine ⟨?_, rfl⟩
        rw [Bool.eq_false_iff.mpr z, Bool.false_and]
    · rintro b H' ⟨eb, rfl⟩
      exact app _ [] _ b "behind" _ s3 upd_same (Nat.zero_le _) eb rfl
  rintro σ4 H4 ⟨rfl, s4, e4⟩
  rw [List.nil_append] at e4
  have l4 := oneL (decide (host = none) && decide (i < j)) "behind"
  -- between
  refine ⟨fun σ' H' => σ' = [some (.ref d), some (.ref r), some (.str one), some (.str other), some (.int (i : Nat)), some (.int (j : Nat)), some (lfpV host), some (.ref p)] ∧ Same H H' ∧ H' p = some (.lst ((optW (decide (host = none) && decide (i < j)) "behind" ++ optW (btw i j host) "between").map V.str)), ?_, ?_⟩
  · refine ⟨fun b H' => b = (btw i j host) ∧ H' = H4, ?_, ?_⟩
    · refine ⟨_, rfl, _, rfl, ?_⟩
      rw [isN]
      cases host with
      | none => exact ⟨rfl, rfl⟩
      | some k =>
        refine ⟨_, rfl, _, rfl, _, _, rfl, rfl, _, rfl, ite2 (fun z => ?_) (fun z => ?_)⟩
        · refine ⟨_, rfl, _, _, rfl, rfl, _, rfl, ?_, rfl⟩
          have z1 := of_decide_eq_true z
          show _ = (decide (k < j) && decide (j < i))
          rw [decide_eq_true (show k < j by omega), Bool.true_and]
          exact decide_eq_decide.mpr (by omega)
        · refine ⟨_, rfl, ?_, rfl⟩
          have z1 := of_decide_eq_false (Bool.eq_false_iff.mpr z)
          show _ = (decide (k < j) && decide (j < i))
          rw [decide_eq_false (show ¬ k < j by omega), Bool.false_and]
    · rintro b H' ⟨eb, rfl⟩
      exact app _ _ _ b "between" _ s4 e4 (by omega) eb rfl
  rintro σ5 H5 ⟨rfl, s5, e5⟩
  have l5 := oneL (btw i j host) "between"
  -- friend
  refine ⟨fun σ' H' => σ' = [some (.ref d), some (.ref r), some (.str one), some (.str other), some (.int (i : Nat)), some (.int (j : Nat)), some (lfpV host), some (.ref p)] ∧ Same H H' ∧ H' p = some (.lst (((optW (decide (host = none) && decide (i < j)) "behind" ++ optW (btw i j host) "between") ++ optW (decide (i < j) && frd ps one other) "friend").map V.str)), ?_, ?_⟩
  · refine ⟨fun b H' => b = (decide (i < j) && frd ps one other) ∧ Same H H' ∧ H' p = H5 p, ?_, ?_⟩
    · refine ⟨_, rfl, _, rfl, _, _, rfl, rfl, _, rfl, ite2 (fun z => ?_) (fun z => ?_)⟩
      · have z1 := of_decide_eq_true z
        refine ⟨_, rfl, _, rfl, (by show 2 ≤ sizeLine; decide), fun t ht => ?_⟩
        have s6 := s5.trans (same_upd (o := .tup [.str one, .str other]) ht)
        obtain ⟨kvs, k1, k3⟩ := hd.same s6
        refine ⟨.ref d, rfl, d, _, rfl, DGet.t (k := k2 one other) k1 upd_same, _, rfl, ?_, s6, upd_ne (ne_of_none e5 ht)⟩
        rw [k3, decide_eq_true (show i < j by omega), Bool.true_and]
      · have z1 := of_decide_eq_false (Bool.eq_false_iff.mpr z)
        refine ⟨?_, s5, rfl⟩
        rw [decide_eq_false (show ¬ i < j by omega), Bool.false_and]
    · rintro b H' ⟨eb, s6, e6⟩
      exact app _ _ _ b "friend" _ s6 (e6.trans e5) (by rw [List.length_append]; omega) eb rfl
  rintro σ6 H6 ⟨rfl, s6, e6⟩
  refine ⟨.ref p, rfl, q p H6 s6 np ?_⟩
  rw [e6, wordsOf, hh]
/-! ### barred_in -/
abbrev sBarredIn : Stmt := topS 5
abbrev nBarredIn : List Str := ["friends", "row", "known", "one", "other"]
theorem scBarredIn : FnScope nBarredIn ["friends", "row"] (defScope sBarredIn) := ⟨rfl, rfl, rfl, by decide +kernel, rfl, by decide +kernel, by decide +kernel⟩
theorem ok_barredIn {f : Addr} {fd : FuncData} (CB : Cal P w K mg base 1 "both_ways" ["friends"] spBoth) (CW : Cal P w K mg base 2 "bar_words" ["known", "row", "one", "other"] spBarW) (F : Fun K "barred_in" "barred_in" sBarredIn f fd) : FnOk P w K mg base CX0 3 f fd ["friends", "row"] spBarredIn := by
  refine fok F scBarredIn (fun vs H Q E h => ?_) (fun cdv A outer s H vs Q E hr h => ?_)
  · obtain ⟨a, r, ps, row, rfl, _⟩ := h
    rfl
  obtain ⟨a, r, ps, row, rfl, ha, hp, hrow, nd, hn, q⟩ := h
  refine ⟨_, pss_cons (ps_set (i := 2) scBarredIn.nd rfl (.inr rfl) (pe_cal CB hr (pa_cons (pv 0) pa_nil)))
    (pss_one (ps_ret (pe_dc (own := [("one", 3)]) (g := gName 3) (tt := tYes) (tk := tVar 3) (tv := tLc (iRow (tVar 1)) (gName 4) (tTr K (tCall spBarW [] E0 (tCons (tVar 2) (tCons (tVar 1) (tCons (tVar 3) (tCons (tVar 4) tNil)))))) (tVar 4) [4]) rfl scBarredIn.nd (pi_row (pv 1)) (blkOk_by (N := nBarredIn) (sc := defScope sBarredIn) (by decide +kernel))
      (fun _ _ _ _ _ => pg_name (i := 3) scBarredIn.nd rfl (Or.inr rfl)) (fun _ _ _ _ _ => pts_nil) (fun _ _ _ _ _ => pv 3)
      (fun _ _ _ _ _ => pe_lc (own := [("other", 4)]) (g := gName 4) (tt := tTr K (tCall spBarW [] E0 (tCons (tVar 2) (tCons (tVar 1) (tCons (tVar 3) (tCons (tVar 4) tNil)))))) (te := tVar 4) rfl scBarredIn.nd (pi_row (pv 1)) (blkOk_by (own := [("other", 4)]) (by rfl)) (fun _ _ _ _ _ => pg_name (i := 4) scBarredIn.nd rfl (Or.inl rfl)) (fun _ _ _ _ _ => pts_one (pt_tr (pe_cal CW hr (pa_cons (pv 2) (pa_cons (pv 1) (pa_cons (pv 3) (pa_cons (pv 4) pa_nil))))))) (fun _ _ _ _ _ => pv 4))))), ?_⟩
  refine ⟨_, rfl, a, ps, rfl, ha, hp, fun d H1 s1 n1 k1 => ?_⟩
  have row1 := hrow.same s1
  refine ⟨.ref r, rfl, r, row, rfl, row1, fun J G wk hG D hD => ?_⟩
  refine dc_it wk (fun i H' => Same H1 H' ∧ BarAt H' D ps row i) ?_ ?_ ?_ ?_
  · exact ⟨same_upd hD, [], upd_same, Nat.le_refl _, fun x hx => by rw [List.take_zero] at hx; cases hx⟩
  · rintro i H' _ ⟨s2, _⟩
    exact hG H' (row1.kept s2)
  · rintro i v H2 H3 hi ⟨s2, kvs, d2, c2, v2⟩ ⟨rfl, ex⟩
    obtain ⟨x, hx, rfl⟩ := at_map ex
    rw [List.length_map] at hi
    have row2 := row1.same s2
    refine ⟨rfl, .str x, rfl, .ref r, rfl, r, row, rfl, row2, fun J2 G2 wk2 hG2 L hL => ?_⟩
    refine lc_take wk2 (fun y => !decide (wordsAt ps row x y = [])) (by omega) hL (fun H' s => hG2 H' (row2.kept s)) ?_ ?_
    · rintro j y v H4 H4' kk k0 hy s4 ⟨rfl, ex2⟩ k1' k2'
      rw [ix_map hy] at ex2
      cases ex2
      refine ⟨rfl, _, rfl, _, rfl, _, rfl, _, rfl, d, r, ps, row, x, y, i, j, rfl, k1.same (s2.trans s4), row2.same s4, hn, nd, hx, hy, fun p H5 s5 n5 e5 => ?_⟩
      have ew : wordsOf ps row x y i j = wordsAt ps row x y := by
        unfold wordsAt
        rw [idx_at nd hx, idx_at nd hy]
      rw [ew] at e5
      refine ⟨_, .inl ⟨_, .inl (.inl e5), rfl⟩, ite2 (fun c => ?_) (fun c => ?_)⟩
      · refine ⟨_, rfl, k1' ?_ _ s5⟩
        cases e : wordsAt ps row x y with
        | nil => rw [e] at c; exact absurd c (fun z => nomatch z)
        | cons _ _ => rfl
      · refine k2' ?_ _ s5
        cases e : wordsAt ps row x y with
        | nil => rfl
        | cons _ _ => rw [e] at c; exact absurd rfl c
    intro H4 s4 e4
    have d4 := s4 _ _ d2
    refine ⟨kvs, .inr x, rfl, d4, small1000 (by omega), fun b o e => ?_, putK kvs (.inr x) (.ref L), upd_same, ?_, fun y hy => ?_⟩
    · rw [upd_ne (ne_of_none e hD)]
      exact s4 _ _ (s2 _ _ e)
    · have := putK_lenK (kvs := kvs) (k := .inr x) (v := V.ref L)
      omega
    · have keep : ∀ {z : Addr} {u : List V}, H4 z = some (.lst u) → upd H4 D (.dK (putK kvs (.inr x) (.ref L))) z = some (.lst u) := fun {z u} hz => (upd_ne (ne_of hz d4 (fun z => nomatch z))).trans hz
      by_cases c : y = x
      · subst c
        exact ⟨L, by rw [valV_put, if_pos rfl], keep e4⟩
      · have hy' : y ∈ row.take i := by
          rw [List.take_add_one, hx] at hy
          exact (List.mem_append.mp hy).elim id fun z => absurd (List.mem_singleton.mp z) c
        obtain ⟨la, q1, q2⟩ := v2 y hy'
        exact ⟨la, by rw [valV_put, if_neg (fun z => c (Sum.inr.inj z))]; exact q1, keep (s4 _ _ q2)⟩
  · rintro H2 ⟨s2, b2⟩
    rw [List.length_map] at b2
    exact q D H2 (s1.trans s2) (s1.free hD) b2
/-! ### loose_at, is_loose, loose_in -/
abbrev sLooseAt : Stmt := topS 16
abbrev nLooseAt : List Str := ["known", "row", "place", "last"]
theorem scLooseAt : FnScope nLooseAt ["known", "row", "place"] (defScope sLooseAt) := ⟨rfl, rfl, rfl, by decide +kernel, rfl, by decide +kernel, by decide +kernel⟩
theorem ok_looseAt {f : Addr} {fd : FuncData} (B : Blt mg) (CL : Cal P w K mg base 1 "last_friend_place" ["known", "row", "who"] spLfp) (F : Fun K "loose_at" "loose_at" sLooseAt f fd) : FnOk P w K mg base CX0 2 f fd ["known", "row", "place"] spLooseAt := by
  refine fok F scLooseAt (fun vs H Q E h => ?_) (fun cdv A outer s H vs Q E hr h => ?_)
  · obtain ⟨d, r, ps, row, x, i, rfl, _⟩ := h
    rfl
  obtain ⟨d, r, ps, row, x, i, rfl, hd, hrow, hn, hi, q⟩ := h
  refine ⟨_, pss_cons (ps_set (i := 3) scLooseAt.nd rfl (.inl rfl) (pe_cal CL hr (pa_cons (pv 0) (pa_cons (pv 1) (pa_cons (pe_ix ix_seq (pv 1) (pv 2) (fun _ _ => rfl)) pa_nil)))))
    (pss_cons (ps_if (pt_cmp (pc_isN (pv 3))) (pss_one (ps_ret (pe_cmpR op_eq (pv 2) (pe_op op_sub (pe_callB call_len_seq (by rfl) B.len PySem.boot_len (pa_cons (pv 1) pa_nil)) pe_int) (nomark _)))) pss_nil)
    (pss_one (ps_ret (pe_cmpR op_eq (pv 3) (pe_op op_sub (pv 2) pe_int) (nomark _))))), ?_⟩
  have hlt : i < row.length := (List.getElem?_eq_some_iff.mp hi).1
  have fin : ∀ H2, Same H H2 → (tSeq (tIfS (tB (tIsN (tVar 3))) (tRet (tOp rEq (tVar 2) (tOp (rI0 fun i j => .int (i - j)) (tCB (fun xs H Q => ∃ p ys, xs = [.ref p] ∧ (SqL K H p ys ∨ SqT K H p ys) ∧ Q (.int ys.length) H) (tCons (tVar 1) tNil)) (tC (.int 1))))) tNext) (tRet (tOp rEq (tVar 3) (tOp (rI0 fun i j => .int (i - j)) (tVar 2) (tC (.int 1)))))) { nx := fun _ H' => Q .non H', rt := Q } [some (.ref d), some (.ref r), some (.int (i : Nat)), some (lfpV (lastP (frd ps x) row))] H2 := by
    intro H2 s2
    have q2 := q H2 s2
    unfold looseB at q2
    refine ⟨_, rfl, _, rfl, ?_⟩
    cases e : lastP (frd ps x) row with
    | none =>
      rw [e] at q2
      have sq : SqL K H2 r (row.map V.str) ∨ SqT K H2 r (row.map V.str) := (hrow.same s2).elim (fun e => .inr e.sq) (fun e => .inl (.inl (.inl e)))
      refine ⟨_, rfl, .ref r, rfl, r, _, rfl, sq, _, _, rfl, rfl, rfl, ?_⟩
      have ed : decide (V.int (i : Int) = V.int ((((row.map V.str).length : Nat) : Int) - 1)) = decide (i + 1 = row.length) := by
        rw [List.length_map]
        refine decide_eq_decide.mpr ⟨fun z => ?_, fun z => congrArg V.int (by omega)⟩
        have := V.int.inj z
        omega
      rw [ed]
      exact q2
    | some k =>
      rw [e] at q2
      refine ⟨_, rfl, _, rfl, _, _, rfl, rfl, rfl, ?_⟩
      have ed : decide (V.int (k : Int) = V.int ((i : Int) - 1)) = decide (k + 1 = i) := by
        refine decide_eq_decide.mpr ⟨fun z => ?_, fun z => congrArg V.int (by omega)⟩
        have := V.int.inj z
        omega
      show Q (.bl (decide (V.int (k : Int) = V.int ((i : Int) - 1)))) H2
      rw [ed]
      exact q2
  refine ⟨_, rfl, .ref r, rfl, .ref r, rfl, _, rfl, ?_⟩
  rcases hrow with e | e
  · refine .inr (.inl ⟨r, _, i, .str x, rfl, rfl, e.sq, atI_nat (ix_map hi), d, r, ps, row, x, rfl, hd, .inl e, hn, fun H2 s2 => fin H2 s2⟩)
  · refine .inl ⟨r, _, i, .str x, rfl, rfl, .inl (.inl e), atI_nat (ix_map hi), d, r, ps, row, x, rfl, hd, .inr e, hn, fun H2 s2 => fin H2 s2⟩
/-! ### hindmost_loose, gone_and_left, goers, left_over -/
abbrev sHind : Stmt := topS 17
abbrev nHind : List Str := ["known", "row", "but", "place"]
theorem scHind : FnScope nHind ["known", "row", "but"] (defScope sHind) := ⟨rfl, rfl, rfl, by decide +kernel, rfl, by decide +kernel, by decide +kernel⟩
theorem ok_hind {f : Addr} {fd : FuncData} (B : Blt mg) (CL : Cal P w K mg base 2 "loose_at" ["known", "row", "place"] spLooseAt) (F : Fun K "hindmost_loose" "hindmost_loose" sHind f fd) : FnOk P w K mg base CX0 3 f fd ["known", "row", "but"] (spHind K) := by
  refine fok F scHind (fun vs H Q E h => ?_) (fun cdv A outer s H vs Q E hr h => ?_)
  · obtain ⟨d, r, p, ps, row, stay, rfl, _⟩ := h
    rfl
  obtain ⟨d, r, p, ps, row, stay, rfl, hd, e, hn, hb, q⟩ := h
  refine ⟨_, pss_cons (ps_for PassesOwn.never rfl (pi_range3 (by rfl) B.range (pa_cons (pe_op op_sub (pe_callB call_len_seq (by rfl) B.len PySem.boot_len (pa_cons (pv 1) pa_nil)) pe_int) (pa_cons (pe_un un_neg pe_int) (pa_cons (pe_un un_neg pe_int) pa_nil)))) (pg_name (i := 3) scHind.nd rfl (.inl rfl))
      (pss_one (ps_if (PW.pt (pw_and (pt_cmpR op_notIn_seq (pe_ix ix_list (pv 1) (pv 3) (fun _ _ => rfl)) (pv 2) (by rfl)) (pw_and1 (pt_val (pe_cal CL hr (pa_cons (pv 0) (pa_cons (pv 1) (pa_cons (pv 3) pa_nil)))))))) (pss_one (ps_ret (pv 3))) pss_nil)))
    (pss_one (ps_ret pe_non)), ?_⟩
  refine ⟨.ref r, rfl, r, _, rfl, .inl (.inl (.inl e)), _, _, rfl, rfl, 1, rfl, 1, rfl, _, _, _, _, rfl, RgC.neg ?_ ?_ (by decide) (by decide), ?_⟩
  · rw [List.length_map]
    omega
  · rw [List.length_map]
    omega
  rw [List.length_map]
  refine for_it (walk_rangeC (lo := (row.length : Int) - 1) (c := -1) (n := ((row.length : Int) - 1 - -1).toNat)) (fun k σ H' => ∃ (y3 : Option V), σ = [some (.ref d), some (.ref r), some (.ref p), y3] ∧ Same H H' ∧ someTo ps stay row (row.length - k) = someL ps stay row) ?_ (fun _ _ _ _ _ => trivial) ?_ ?_
  · exact ⟨_, rfl, Same.refl H, by rw [Nat.sub_zero, someTo_all]⟩
  · rintro k x σ H2 H1 hk ⟨y3, rfl, s1, g1⟩ ⟨rfl, rfl⟩
    have hk' : k < row.length := by omega
    obtain ⟨x, hx⟩ : ∃ x, row[row.length - 1 - k]? = some x := ⟨row[row.length - 1 - k]'(by omega), List.getElem?_eq_getElem _⟩
    have ei : ((row.length : Int) - 1 + (k : Int) * -1) = ((row.length - 1 - k : Nat) : Int) := by omega
    rw [show ((fun i : Nat => V.int ((row.length : Int) - 1 + (i : Int) * -1)) k) = V.int ((row.length - 1 - k : Nat) : Int) from congrArg V.int ei]
    have st := someTo_step (ps := ps) (stay := stay) hx
    rw [show row.length - 1 - k + 1 = row.length - k by omega, g1] at st
    have e1 := s1 _ _ e
    refine ⟨.ref r, rfl, _, rfl, r, _, _, .str x, rfl, rfl, .inl (.inl e1), atI_nat (ix_map hx), .ref p, rfl, p, _, rfl, hb _ s1, rfl, flat_strs _, _, rfl, ?_⟩
    rw [inV_strs]
    refine ite2 (fun c => ?_) (fun c => ?_)
    · have c' : (!decide (x ∈ stay)) = true := c
      refine ⟨_, rfl, _, rfl, _, rfl, d, r, ps, row, x, row.length - 1 - k, rfl, hd.same s1, .inr e1, hn, hx, fun H2 s2 => ⟨_, rfl, ?_⟩⟩
      refine ite2 (fun c2 => ?_) (fun c2 => ?_)
      · refine ⟨_, rfl, q _ H2 (s1.trans s2) ?_⟩
        rw [if_pos (by rw [c', c2]; rfl)] at st
        rw [st, List.getLast?_append]
        exact ⟨_, rfl, hx⟩
      · rw [if_neg (by rw [c', Bool.true_and]; exact c2), List.append_nil] at st
        exact ⟨_, rfl, s1.trans s2, by rw [show row.length - (k + 1) = row.length - 1 - k by omega]; exact st.symm⟩
    · have c' : ¬ (!decide (x ∈ stay)) = true := c
      rw [if_neg (by intro z; exact c' ((Bool.and_eq_true _ _ ▸ z).1)), List.append_nil] at st
      exact ⟨_, rfl, s1, by rw [show row.length - (k + 1) = row.length - 1 - k by omega]; exact st.symm⟩
  · rintro σ H1 ⟨y3, rfl, s1, g1⟩
    refine q _ H1 s1 ?_
    rw [← g1, show row.length - ((row.length : Int) - 1 - -1).toNat = 0 by omega]
    rfl
abbrev sStayed : Stmt := topS 18
abbrev nStayed : List Str := ["known", "row", "but", "left", "gone", "place"]
theorem scStayed : FnScope nStayed ["known", "row", "but"] (defScope sStayed) := ⟨rfl, rfl, rfl, by decide +kernel, rfl, by decide +kernel, by decide +kernel⟩
theorem ok_stayed {f : Addr} {fd : FuncData} (B : Blt mg) (CH : Cal P w K mg base 3 "hindmost_loose" ["known", "row", "but"] (spHind K)) (F : Fun K "gone_and_stayed" "gone_and_stayed" sStayed f fd) : FnOk P w K mg base CX0 4 f fd ["known", "row", "but"] (spStayed K) := by
  refine fok F scStayed (fun vs H Q E h => ?_) (fun cdv A outer s H vs Q E hr h => ?_)
  · obtain ⟨a, r, p, ps, row, stay, rfl, _⟩ := h
    rfl
  obtain ⟨d, r, p, ps, row, stay, rfl, k1, hrow, hd, hn, hb, q⟩ := h
  have h1 : Room 1 _ := hr.mono (by decide)
  refine ⟨_, (pss_cons (ps_set (i := 3) scStayed.nd rfl (.inl rfl) (pe_callTy call_list_of (by rfl) B.list (by decide +kernel) (pa_cons (pv 1) pa_nil)))
    (pss_cons (ps_set (i := 4) scStayed.nd rfl (.inl rfl) (pe_lst pa_nil))
    (pss_cons (ps_set (i := 5) scStayed.nd rfl (.inl rfl) (pe_cal CH hr (pa_cons (pv 0) (pa_cons (pv 3) (pa_cons (pv 2) pa_nil)))))
    (pss_cons (ps_while PassesOwn.never (pt_cmp (pc_notN (pv 5)))
      (pss_cons (ps_expr (pe_bm PySem.F.plainAttrs_list PySem.F.slot_list_append PySem.F.type_list_append mt_append (pv 4) (pa_cons (pe_bm PySem.F.plainAttrs_list PySem.F.slot_list_pop PySem.F.type_list_pop mt_popAt (pv 3) (pa_cons (pv 5) pa_nil)) pa_nil)))
      (pss_one (ps_set (i := 5) scStayed.nd rfl (.inl rfl) (pe_cal CH hr (pa_cons (pv 0) (pa_cons (pv 3) (pa_cons (pv 2) pa_nil))))))))
    (pss_one (ps_ret (pe_tup (pa_cons (pv 4) (pa_cons (pe_callTy call_tupleF (by rfl) B.tuple (by decide +kernel) (pa_cons (pv 3) pa_nil)) pa_nil))))))))), ?_⟩
  have sq : SqL K H r (row.map V.str) ∨ SqT K H r (row.map V.str) := hrow.elim (fun e => .inr e.sq) (fun e => .inl (.inl (.inl e)))
  refine ⟨.ref r, rfl, r, _, rfl, sq, fun le hle => ?_⟩
  have s2 := same_upd (o := .lst (row.map V.str)) hle
  refine ⟨(by show 0 ≤ sizeLine; decide), fun go hgo => ?_⟩
  have s3 := same_upd (o := .lst []) hgo
  have ngl : le ≠ go := fun z => by rw [← z, upd_same] at hgo; cases hgo
  have hle0 : H le = none := hle
  have hgo0 : H go = none := s2.free hgo
  have l3 : upd (upd H le (.lst (row.map V.str))) go (.lst []) le = some (.lst (row.map V.str)) := s3 _ _ upd_same
  have s03 := s2.trans s3
  refine ⟨_, rfl, _, rfl, _, rfl, d, le, p, ps, row, stay, rfl, (k1.same s2).same s3, l3, hn, (fun H' s => hb H' (s03.trans s)), fun v H4 s4 hv => ?_⟩
  refine while_by (fun σ H' => ∃ (acc cur : List Str) (v : V), σ = [some (.ref d), some (.ref r), some (.ref p), some (.ref le), some (.ref go), some v] ∧ Same H H' ∧ KnAt H' d ps ∧ H' le = some (.lst (cur.map V.str)) ∧ H' go = some (.lst (acc.map V.str)) ∧ cur.Nodup ∧ acc.length + cur.length = row.length ∧ hindV cur (someL ps stay cur).getLast? v ∧ acc ++ goneO ps stay cur = goneO ps stay row ∧ goneR ps stay cur = goneR ps stay row)
    (fun σ H' => match H' le with | some (.lst xs) => xs.length | _ => 0) ?_ ?_ ?_
  · exact ⟨[], row, v, rfl, s03.trans s4, ((k1.same s2).same s3).same s4, s4 _ _ l3, s4 _ _ upd_same, hd, Nat.zero_add _, hv, rfl, rfl⟩
  · rintro σ H5 ⟨acc, cur, v, rfl, s5, k5, l5, g5, d5, n5, v5, a5, r5⟩
    refine ⟨_, rfl, ?_⟩
    cases e : (someL ps stay cur).getLast? with
    | none =>
      rw [e] at v5
      have v5' : v = .non := v5
      subst v5'
      refine ⟨_, rfl, ?_⟩
      have en := List.getLast?_eq_none_iff.mp e
      obtain ⟨z1, z2⟩ := gone_none en
      rw [z1, List.append_nil] at a5
      rw [z2] at r5
      refine ⟨.ref go, rfl, .ref le, rfl, le, _, rfl, .inl ⟨.inl (.inl l5), fun t H6 s6 n6 t6 => ?_⟩⟩
      refine ⟨(by show 2 ≤ sizeLine; decide), fun T hT => ?_⟩
      have s7 := same_upd (o := .tup [.ref go, .ref t]) hT
      refine q T go t _ ((s5.trans s6).trans s7) hgo0 upd_same ?_ ?_
      · rw [← a5]
        exact s7 _ _ (s6 _ _ g5)
      · rw [← r5]
        exact t6.same s7
    | some x =>
      rw [e] at v5
      obtain ⟨i, rfl, hx⟩ := v5
      have hi : i < cur.length := (List.getElem?_eq_some_iff.mp hx).1
      obtain ⟨z1, z2⟩ := gone_some d5 e
      have rl := rem_len d5 (List.mem_of_getElem? hx)
      refine ⟨_, rfl, ?_⟩
      have ngl' : go ≠ le := Ne.symm ngl
      refine ⟨.ref go, rfl, .inl ⟨rfl, _, .inl (.inl g5)⟩, .ref le, rfl, .inl ⟨rfl, _, .inl (.inl l5)⟩, _, rfl, le, _, i, i, .str x, rfl, rfl, l5, by omega, by omega, ?_, ix_map hx, ?_⟩
      · rw [List.length_map]
        exact PyProof.Rows.seqIndex_at (by omega) (by omega)
      rw [erase_map, erase_rem d5 hx]
      have g6 : upd H5 le (.lst ((rem cur x).map V.str)) go = some (.lst (acc.map V.str)) := (upd_ne ngl').trans g5
      refine ⟨go, _, _, rfl, rfl, g6, ?_, ?_⟩
      · rw [List.length_map]
        exact small1000 (by omega)
      have l7 : upd (upd H5 le (.lst ((rem cur x).map V.str))) go (.lst (acc.map V.str ++ [.str x])) le = some (.lst ((rem cur x).map V.str)) := (upd_ne ngl).trans upd_same
      have s7 : Same H (upd (upd H5 le (.lst ((rem cur x).map V.str))) go (.lst (acc.map V.str ++ [.str x]))) := fun b o z => by
        rw [upd_ne (ne_of_none z hgo0), upd_ne (ne_of_none z hle0)]
        exact s5 _ _ z
      have k7 : KnAt (upd (upd H5 le (.lst ((rem cur x).map V.str))) go (.lst (acc.map V.str ++ [.str x]))) d ps := by
        obtain ⟨kvs, w1, w2⟩ := k5
        exact ⟨kvs, (upd_ne (ne_of w1 g5 (fun z => nomatch z))).trans ((upd_ne (ne_of w1 l5 (fun z => nomatch z))).trans w1), w2⟩
      refine ⟨_, rfl, _, rfl, _, rfl, d, le, p, ps, rem cur x, stay, rfl, k7, l7, by omega, (fun H' s => hb H' (s7.trans s)), fun v8 H8 s8 hv8 => ?_⟩
      refine ⟨⟨acc ++ [x], rem cur x, v8, rfl, s7.trans s8, k7.same s8, s8 _ _ l7, ?_, rem_nodup d5, ?_, hv8, ?_, ?_⟩, ?_⟩
      · rw [List.map_append]
        exact s8 _ _ upd_same
      · rw [List.length_append]
        show acc.length + 1 + _ = _
        omega
      · rw [List.append_assoc]
        show acc ++ (x :: goneO ps stay (rem cur x)) = _
        rw [← z1]
        exact a5
      · rw [← z2]
        exact r5
      · rw [s8 _ _ l7, l5]
        show ((rem cur x).map V.str).length < (cur.map V.str).length
        rw [List.length_map, List.length_map]
        omega
  · rintro σ H5 Q1 Q2 hQ ⟨y, hy, c, hc, z⟩
    exact ⟨y, hy, c, hc, hQ _ _ z⟩
abbrev sGone : Stmt := topS 19
abbrev nGone : List Str := ["friends", "row", "but"]
theorem scGone : FnScope nGone nGone (defScope sGone) := ⟨rfl, rfl, rfl, by decide +kernel, rfl, by decide +kernel, by decide +kernel⟩
theorem ok_gone {f : Addr} {fd : FuncData} (CB : Cal P w K mg base 1 "both_ways" ["friends"] spBoth) (CS : Cal P w K mg base 4 "gone_and_stayed" ["known", "row", "but"] (spStayed K)) (F : Fun K "gone_and_left" "gone_and_left" sGone f fd) : FnOk P w K mg base CX0 5 f fd ["friends", "row", "but"] (spGone K) := by
  refine fok F scGone (fun vs H Q E h => ?_) (fun cdv A outer s H vs Q E hr h => ?_)
  · obtain ⟨a, r, p, ps, row, stay, rfl, _⟩ := h
    rfl
  obtain ⟨a, r, p, ps, row, stay, rfl, ha, hp, hrow, hd, hn, hb, q⟩ := h
  refine ⟨_, pss_one (ps_ret (pe_cal CS hr (pa_cons (pe_cal CB hr (pa_cons (pv 0) pa_nil)) (pa_cons (pv 1) (pa_cons (pv 2) pa_nil))))), ?_⟩
  refine ⟨_, rfl, a, ps, rfl, ha, hp, fun d H1 s1 nd1 k1 => ?_⟩
  refine ⟨_, rfl, _, rfl, d, r, p, ps, row, stay, rfl, k1, hrow.same s1, hd, hn, (fun H' s => hb H' (s1.trans s)), fun T g t H2 s2 n2 eT eg et => ?_⟩
  exact q T g t H2 (s1.trans s2) (s1.free n2) eT eg et
/-! ### some_order, hung -/
abbrev sSomeO : Stmt := topS 21
abbrev nSomeO : List Str := ["friends", "row", "gone", "left"]
theorem scSomeO : FnScope nSomeO ["friends", "row"] (defScope sSomeO) := ⟨rfl, rfl, rfl, by decide +kernel, rfl, by decide +kernel, by decide +kernel⟩
theorem ok_someO {f : Addr} {fd : FuncData} (CG : Cal P w K mg base 5 "gone_and_left" ["friends", "row", "but"] (spGone K)) (F : Fun K "some_order" "some_order" sSomeO f fd) : FnOk P w K mg base CX0 6 f fd ["friends", "row"] spSomeO := by
  refine fok F scSomeO (fun vs H Q E h => ?_) (fun cdv A outer s H vs Q E hr h => ?_)
  · obtain ⟨a, r, ps, row, rfl, _⟩ := h
    rfl
  obtain ⟨a, r, ps, row, rfl, ha, hp, hrow, hd, hn, g0, q⟩ := h
  refine ⟨_, pss_cons (ps_asg (pe_cal CG hr (pa_cons (pv 0) (pa_cons (pv 1) (pa_cons (pe_tupF pa_nil) pa_nil)))) (pg_tup rfl (pgs_cons (pg_name (i := 2) scSomeO.nd rfl (.inl rfl)) (pgs_cons (pg_name (i := 3) scSomeO.nd rfl (.inl rfl)) pgs_nil))))
    (pss_cons (ps_if (pt_truth (pv 3) (by intro _; rfl)) (pss_one ps_never) pss_nil)
    (pss_one (ps_ret (pe_revL (pv 2))))), ?_⟩
  refine ⟨_, rfl, _, rfl, (by show 0 ≤ sizeLine; decide), fun p0 H0 s0 n0 t0 => ?_⟩
  refine ⟨a, r, p0, ps, row, [], rfl, ha.same s0, hp, hrow.same s0, hd, hn, (fun H' s => .inr (t0.same s).sq), fun T g t H1 s1 ng eT eg et => ?_⟩
  refine ⟨T, _, rfl, .inl (.inl eT), rfl, _, _, rfl, _, _, rfl, rfl, ?_⟩
  have s01 := s0.trans s1
  rw [g0] at et
  refine ⟨.ref t, rfl, _, .inr (.inl ⟨_, et.sq, rfl⟩), ?_⟩
  refine ⟨.ref g, rfl, g, _, rfl, .inl (.inl eg), fun p hp2 => ?_⟩
  rw [← List.map_reverse]
  exact q p _ (s01.trans (same_upd hp2)) (s01.free hp2) upd_same
abbrev sHung : Stmt := topS 41
abbrev nHung : List Str := ["friends", "row", "known", "told", "place", "who", "host"]
theorem scHung : FnScope nHung ["friends", "row"] (defScope sHung) := ⟨rfl, rfl, rfl, by decide +kernel, rfl, by decide +kernel, by decide +kernel⟩
theorem ok_hung {f : Addr} {fd : FuncData} (B : Blt mg) (CS : Cal P w K mg base 6 "some_order" ["friends", "row"] spSomeO) (CB : Cal P w K mg base 1 "both_ways" ["friends"] spBoth) (CL : Cal P w K mg base 1 "last_friend_place" ["known", "row", "who"] spLfp) (F : Fun K "hung" "hung" sHung f fd) : FnOk P w K mg base CX0 7 f fd ["friends", "row"] spHung := by
  refine fok F scHung (fun vs H Q E h => ?_) (fun cdv A outer s H vs Q E hr h => ?_)
  · obtain ⟨a, r, ps, row, rfl, _⟩ := h
    rfl
  obtain ⟨a, r, ps, row, rfl, ha, hp, hrow, hd, hn, g0, q⟩ := h
  refine ⟨_, pss_cons (ps_expr (pe_cal CS hr (pa_cons (pv 0) (pa_cons (pv 1) pa_nil))))
    (pss_cons (ps_set (i := 2) scHung.nd rfl (.inl rfl) (pe_cal CB hr (pa_cons (pv 0) pa_nil)))
    (pss_cons (ps_set (i := 3) scHung.nd rfl (.inl rfl) (pe_lst pa_nil))
    (pss_cons (ps_for PassesOwn.never rfl (pi_rowE (by rfl) B.enumerate (pv 1)) (pg_tup rfl (pgs_cons (pg_name (i := 4) scHung.nd rfl (.inl rfl)) (pgs_cons (pg_name (i := 5) scHung.nd rfl (.inl rfl)) pgs_nil)))
      (pss_cons (ps_set (i := 6) scHung.nd rfl (.inl rfl) (pe_cal CL hr (pa_cons (pv 2) (pa_cons (pe_slice sl_row (pv 1) po_none (po_some (pv 4))) (pa_cons (pv 5) pa_nil)))))
      (pss_one (ps_expr (pe_bm PySem.F.plainAttrs_list PySem.F.slot_list_append PySem.F.type_list_append mt_append (pv 3) (pa_cons (pe_tup (pa_cons (pv 5) (pa_cons (pe_mid (pe_ifExp (pt_cmp (pc_isN (pv 6))) pe_non (pe_ix ix_row (pv 1) (pv 6) (fun _ _ => rfl)))) pa_nil))) pa_nil))))))
    (pss_one (ps_ret (pv 3)))))), ?_⟩
  refine ⟨_, rfl, _, rfl, a, r, ps, row, rfl, ha, hp, hrow, hd, hn, g0, fun po H1 s1 npo epo => ?_⟩
  refine ⟨_, rfl, a, ps, rfl, ha.same s1, hp, fun d H2 s2 nd2 k2 => ?_⟩
  have s02 := s1.trans s2
  refine ⟨(by show 0 ≤ sizeLine; decide), fun to hto => ?_⟩
  have s3 := same_upd (o := .lst []) hto
  have nto : H to = none := s02.free hto
  have row3 := (hrow.same s02).same s3
  refine ⟨r, row, rfl, row3, fun J G wk hG => ?_⟩
  refine for_it wk (fun i σ H' => ∃ (qs : List B3O) (y4 y5 y6 : Option V), σ = [some (.ref a), some (.ref r), some (.ref d), some (.ref to), y4, y5, y6] ∧ Same H2 H' ∧ H' r = H2 r ∧ H' to = some (.lst (refsO qs)) ∧ PairsO H' qs ∧ qs.map (·.2) = hungL ps row i) ?_ ?_ ?_ ?_
  · exact ⟨[], _, _, _, rfl, s3, (hrow.same s02).kept s3, upd_same, (fun _ h => nomatch h), rfl⟩
  · rintro i σ H' _ ⟨qs, y4, y5, y6, _, s4, e4, _⟩
    exact hG H' (e4.trans ((hrow.same s02).kept s3).symm)
  · rintro i v σ H4 H5 hi ⟨qs, y4, y5, y6, rfl, s4, r4, e4, p4, m4⟩ ⟨T, x1, x2, rfl, nT, rfl, e1, e2⟩
    cases e1
    obtain ⟨x, hx, rfl⟩ := at_map e2
    have hil : i < row.length := (List.getElem?_eq_some_iff.mp hx).1
    have sT := same_upd (o := .tup [.int (i : Nat), .str x]) nT
    have s5 := s4.trans sT
    refine ⟨T, _, rfl, .inl (.inl upd_same), rfl, _, _, rfl, _, _, rfl, rfl, ?_⟩
    have row5 := (hrow.same s02).same s5
    refine ⟨_, rfl, .ref r, rfl, _, rfl, _, rfl, r, row, rfl, row5, fun sl H6 s6 r6 => ?_⟩
    rw [cutL_to] at r6
    refine ⟨_, rfl, d, sl, ps, row.take i, x, rfl, (k2.same s5).same s6, r6, (by rw [List.length_take]; omega), fun H7 s7 => ?_⟩
    have s47 := (sT.trans s6).trans s7
    have s27 := s4.trans s47
    have e7 := s47 _ _ e4
    have ml : qs.length ≤ 100 := by
      have := congrArg List.length m4
      rw [List.length_map] at this
      rw [this]
      exact Nat.le_trans (hungL_len ps row i) hn
    refine ⟨.ref to, rfl, .inl ⟨rfl, _, .inl (.inl e7)⟩, .str x, rfl, fun v H' => v = optV (hostO ps row x) ∧ H7 = H', ?_, ?_⟩
    · refine ⟨_, rfl, _, rfl, ?_⟩
      rw [hostO_at hd hx]
      cases e : lastP (frd ps x) (row.take i) with
      | none => exact ⟨rfl, rfl⟩
      | some k =>
        obtain ⟨y, q1, _, _⟩ := lastP_some e
        have q2 : row[k]? = some y := by
          rw [List.getElem?_take] at q1
          split at q1
          · exact q1
          · cases q1
        refine ⟨.ref r, rfl, _, rfl, r, row, (k : Int), y, rfl, rfl, (hrow.same s02).same s27, atI_nat (ix_map q2), ?_, rfl⟩
        show V.str y = optV (row[k]?)
        rw [q2]
        rfl
    rintro v _ ⟨rfl, rfl⟩
    refine ⟨(by show 2 ≤ sizeLine; decide), fun pr hpr => ?_⟩
    have s8 := same_upd (o := .tup [.str x, optV (hostO ps row x)]) hpr
    have npr : to ≠ pr := ne_of_none e7 hpr
    have e8 := s8 _ _ e7
    refine ⟨to, _, _, rfl, rfl, e8, ?_, ?_⟩
    · show (qs.map _).length < sizeLine
      rw [List.length_map]
      exact small1000 (by omega)
    have s48 := s47.trans s8
    refine ⟨qs ++ [(pr, x, hostO ps row x)], _, _, _, rfl, fun b o' e => ?_, ?_, ?_, ?_, ?_⟩
    · have nb : b ≠ to := fun z => by
        rw [z, hto] at e
        cases e
      rw [upd_ne nb]
      exact s48 _ _ (s4 _ _ e)
    · obtain ⟨o', eo⟩ := (hrow.same s02).some_
      have nr : r ≠ to := fun z => by
        rw [← z, eo] at hto
        cases hto
      rw [upd_ne nr, eo]
      exact s48 _ _ (s4 _ _ eo)
    · rw [upd_same]
      unfold refsO
      rw [List.map_append]
      rfl
    · intro c hc
      rcases List.mem_append.mp hc with u | u
      · exact ((p4.same s48).upd_ e8) c u
      · rw [List.mem_singleton.mp u, upd_ne (Ne.symm npr), upd_same]
    · rw [hungL_step hx, List.map_append, m4]
      rfl
  · rintro σ H4 ⟨qs, y4, y5, y6, rfl, s4, r4, e4, p4, m4⟩
    rw [List.length_map] at m4
    exact ⟨.ref to, rfl, q to qs H4 (s02.trans s4) nto e4 p4 m4⟩
/-! ### came_behind, needed_ahead -/
abbrev sCameB : Stmt := topS 31
abbrev nCameB : List Str := ["friends", "row", "order", "barred", "behind", "who", "found", "other", "later"]
theorem scCameB : FnScope nCameB ["friends", "row"] (defScope sCameB) := ⟨rfl, rfl, rfl, by decide +kernel, rfl, by decide +kernel, by decide +kernel⟩
theorem ok_cameB {f : Addr} {fd : FuncData} (B : Blt mg) (CSo : Cal P w K mg base 6 "some_order" ["friends", "row"] spSomeO) (CBi : Cal P w K mg base 3 "barred_in" ["friends", "row"] spBarredIn) (F : Fun K "came_behind" "came_behind" sCameB f fd) : FnOk P w K mg base CX0 7 f fd ["friends", "row"] spCameB := by
  refine fok F scCameB (fun vs H Q E h => ?_) (fun cdv A outer s H vs Q E hr h => ?_)
  · obtain ⟨a, r, ps, row, rfl, _⟩ := h
    rfl
  obtain ⟨a, r, ps, row, rfl, ha, hp, irr, hrow, nd, hn, g0, q⟩ := h
  have hu := hu_of hr
  refine ⟨_, pss_cons (ps_set (i := 2) scCameB.nd rfl (.inl rfl) (pe_cal CSo hr (pa_cons (pv 0) (pa_cons (pv 1) pa_nil))))
    (pss_cons (ps_set (i := 3) scCameB.nd rfl (.inl rfl) (pe_cal CBi hr (pa_cons (pv 0) (pa_cons (pv 1) pa_nil))))
    (pss_cons (ps_set (i := 4) scCameB.nd rfl (.inl rfl) pe_dnewK)
    (pss_cons (ps_for PassesOwn.never rfl (pi_reversed (by rfl) B.reversed (pa_cons (pv 2) pa_nil)) (pg_name (i := 5) scCameB.nd rfl (.inl rfl))
      (pss_cons (ps_set (i := 6) scCameB.nd rfl (.inl rfl) pe_dnewK)
      (pss_cons (ps_for PassesOwn.never rfl (pi_list (pe_dget hu (pv 3) (pv 5) (fun _ _ => rfl))) (pg_name (i := 7) scCameB.nd rfl (.inl rfl))
        (pss_cons (ps_dput hu (pv 6) (pv 7) pe_bl rfl)
        (pss_one (ps_lock (ps_for PassesOwn.never rfl (pi_keys (pe_dget hu (pv 4) (pv 7) (fun _ _ => rfl))) (pg_name (i := 8) scCameB.nd rfl (.inl rfl)) (pss_one (ps_dput hu (pv 6) (pv 8) pe_bl rfl)))))))
      (pss_one (ps_dput hu (pv 4) (pv 5) (pv 6) rfl)))))
    (pss_one (ps_ret (pv 4)))))), ?_⟩
  have oo := gone_order irr nd g0
  have ol : (goneO ps [] row).length = row.length := by
    have := oo.len
    rw [List.length_reverse] at this
    exact this
  refine ⟨_, rfl, _, rfl, a, r, ps, row, rfl, ha, hp, hrow, nd, hn, g0, fun o H1 s1 n1 e1 => ?_⟩
  refine ⟨_, rfl, _, rfl, a, r, ps, row, rfl, ha.same s1, hp, hrow.same s1, nd, hn, fun Bd H2 s2 n2 b2 => ?_⟩
  intro D hD
  have e2 := s2 _ _ e1
  have s3 := same_upd (o := .dK []) hD
  refine ⟨.ref o, rfl, o, _, rfl, .inl (.inl (s3 _ _ e2)), ?_⟩
  have gnd : (goneO ps [] row).Nodup := by
    have := nodup_rev oo.nd
    rw [List.reverse_reverse] at this
    exact this
  refine for_it (walk_rev (xs := (goneO ps [] row).reverse.map V.str)) (fun i σ H' => ∃ (y5 y6 y7 y8 : Option V), σ = [some (.ref a), some (.ref r), some (.ref o), some (.ref Bd), some (.ref D), y5, y6, y7, y8] ∧ Same H2 H' ∧ BehAt H' D ps row ((goneO ps [] row).take i)) ?_ ?_ ?_ ?_
  · exact ⟨_, _, _, _, rfl, s3, [], upd_same, (by rw [List.take_zero]; rfl), (fun _ h => nomatch h)⟩
  · rintro i σ H' _ ⟨y5, y6, y7, y8, _, s4, _⟩
    exact .inl (.inl (s4 _ _ e2))
  · rintro i v σ H5' H5 hi ⟨y5, y6, y7, y8, rfl, s5, qs, d5, m5, v5⟩ ⟨rfl, ex⟩
    rw [List.length_map, List.length_reverse] at hi
    obtain ⟨x, hx', rfl⟩ := at_map ex
    have hx : (goneO ps [] row)[i]? = some x := by
      rw [List.length_map, List.getElem?_reverse (by rw [List.length_reverse]; omega), List.length_reverse] at hx'
      rw [show (goneO ps [] row).length - 1 - ((goneO ps [] row).length - 1 - i) = i by omega] at hx'
      exact hx'
    have mx : x ∈ row := oo.pm.mem_iff.mp (List.mem_reverse.mpr (List.mem_of_getElem? hx))
    intro fa hfa
    have s6 := same_upd (o := .dK []) hfa
    obtain ⟨kvs, kb1, kb2, kb3⟩ := b2.same (s5.trans s6)
    obtain ⟨la, lb1, lb2⟩ := kb3 x (by rw [List.take_of_length_le (Nat.le_refl _)]; exact mx)
    have g1 := DGet.k (k := .inr x) kb1
    rw [lb1] at g1
    refine ⟨.ref Bd, rfl, .str x, rfl, Bd, _, rfl, g1, la, rfl, ⟨_, .inl (.inl lb2)⟩, ?_⟩
    have nla : la ≠ fa := ne_of lb2 upd_same (fun z => nomatch z)
    have lb5 : H5 la = some (.lst ((barsL ps row x).map V.str)) := (upd_ne nla).symm.trans lb2
    have ndq : (qs.map (·.1)).Nodup := by
      rw [m5]
      exact gnd.sublist (List.take_sublist _ _)
    -- who is barred has gone already
    have bef : ∀ y ∈ barsL ps row x, ∃ qd ∈ qs, qd.1 = y := fun y hy => by
      obtain ⟨my, by_⟩ := (barsL_mem nd mx).mp hy
      have lt := oo.bars irr x mx y my by_
      have mg : y ∈ goneO ps [] row := List.mem_reverse.mp (oo.pm.mem_iff.mpr my)
      obtain ⟨j, hj⟩ := List.mem_iff_getElem?.mp mg
      have jl : j < (goneO ps [] row).length := (List.getElem?_eq_some_iff.mp hj).1
      have r1 : (goneO ps [] row).reverse[(goneO ps [] row).length - 1 - i]? = some x := by
        rw [List.getElem?_reverse (by omega), show (goneO ps [] row).length - 1 - ((goneO ps [] row).length - 1 - i) = i by omega]
        exact hx
      have r2 : (goneO ps [] row).reverse[(goneO ps [] row).length - 1 - j]? = some y := by
        rw [List.getElem?_reverse (by omega), show (goneO ps [] row).length - 1 - ((goneO ps [] row).length - 1 - j) = j by omega]
        exact hj
      rw [idx_at oo.nd r1, idx_at oo.nd r2] at lt
      have mt : y ∈ (goneO ps [] row).take i := by
        rw [List.mem_iff_getElem?]
        exact ⟨j, by rw [List.getElem?_take, if_pos (by omega)]; exact hj⟩
      rw [← m5] at mt
      obtain ⟨qd, hq, e⟩ := List.mem_map.mp mt
      exact ⟨qd, hq, e⟩
    have bl : (barsL ps row x).length ≤ 100 := Nat.le_trans (List.length_filter_le _ _) hn
    refine for_it (walk_list (xs := (barsL ps row x).map V.str)) (fun j σ H' => ∃ (y7 y8 : Option V) (zs : List Str), σ = [some (.ref a), some (.ref r), some (.ref o), some (.ref Bd), some (.ref D), some (.str x), some (.ref fa), y7, y8] ∧ Same H5 H' ∧ SetD H' fa zs ∧ zs.Nodup ∧ (∀ z ∈ zs, z ∈ row) ∧ ∀ z, z ∈ zs ↔ ∃ y ∈ (barsL ps row x).take j, z = y ∨ Leads ps row y z) ?_ ?_ ?_ ?_
    · exact ⟨_, _, [], rfl, s6, upd_same, List.nodup_nil, (fun _ h => nomatch h), fun z => ⟨(fun h => nomatch h), fun ⟨y, hy, _⟩ => by rw [List.take_zero] at hy; cases hy⟩⟩
    · rintro j σ H' _ ⟨y7, y8, zs, _, s7, _⟩
      exact .inl (.inl (s7 _ _ lb5))
    · rintro j v σ H7' H7 hj ⟨y7, y8, zs, rfl, s7, d7, zn, zr, zm⟩ ⟨rfl, ex2⟩
      obtain ⟨y, hy, rfl⟩ := at_map ex2
      have my := List.mem_of_getElem? hy
      obtain ⟨mrow, byx⟩ := (barsL_mem nd mx).mp my
      have zl : zs.length ≤ 100 := Nat.le_trans (nd_len zs row zn zr) hn
      have d7' : H7 fa = some (.dK (trueK zs)) := d7
      have dp : DPut H7 fa (.str y) (.bl true) (upd H7 fa (.dK (putK (trueK zs) (.inr y) (.bl true)))) := DPut.k (k := .inr y) d7' (by unfold trueK; rw [List.length_map]; exact small1000 (by omega))
      refine ⟨.ref fa, rfl, .str y, rfl, fa, _, rfl, dp, ?_⟩
      rw [trueK_put]
      obtain ⟨qd, hq, eq⟩ := bef y my
      obtain ⟨vq1, vq2, vq3⟩ := v5 qd hq
      have vq5 : H5 qd.2.1 = some (.dK (trueK qd.2.2)) := vq1
      have nqf : qd.2.1 ≠ fa := ne_of_none vq5 hfa
      have s8 : Same H5 (upd H7 fa (.dK (trueK (addS zs y)))) := fun b o z => by
        rw [upd_ne (ne_of_none z hfa)]
        exact s7 _ _ z
      have nqD : D ≠ qd.2.1 := fun z => by
        rw [z, vq5] at d5
        have e := Option.some.inj d5
        injection e with e
        have : ((Sum.inr qd.1 : Key), V.ref qd.2.1) ∈ trueK qd.2.2 := by
          rw [e]
          exact List.mem_map.mpr ⟨qd, hq, rfl⟩
        obtain ⟨_, _, h⟩ := List.mem_map.mp this
        have := congrArg Prod.snd h
        cases this
      have nql : qd.2.2.length ≤ 100 := Nat.le_trans (nd_len qd.2.2 row vq2 fun z hz => ((vq3 z).mp hz).right) hn
      refine ⟨qd.2.1, .dK (trueK qd.2.2), s8 _ _ vq5, trivial, fun od => ?_⟩
      have gD : DGet (upd (upd H7 fa (.dK (trueK (addS zs y)))) qd.2.1 (.frz od (.dK (trueK qd.2.2)))) D (.str y) (some (.ref qd.2.1)) := by
        have := DGet.k (k := .inr y) (kvs := behK qs) (lock_at (v := .frz od (.dK (trueK qd.2.2))) (u := .lst []) (s8 _ _ d5) nqD)
        rw [behK_val ndq hq eq] at this
        exact this
      refine ⟨.ref D, rfl, .str y, rfl, D, _, rfl, gD, qd.2.1, od, rfl, .inl ⟨_, upd_same, ?_⟩⟩
      have sL : Same (upd H5 qd.2.1 (.frz od (.dK (trueK qd.2.2)))) (upd (upd H7 fa (.dK (trueK (addS zs y)))) qd.2.1 (.frz od (.dK (trueK qd.2.2)))) := fun b o z => by
        by_cases c : b = qd.2.1
        · subst c
          rw [upd_same] at z ⊢
          exact z
        · rw [upd_ne c] at z ⊢
          exact s8 _ _ z
      have faL : upd (upd H7 fa (.dK (trueK (addS zs y)))) qd.2.1 (.frz od (.dK (trueK qd.2.2))) fa = some (.dK (trueK (addS zs y))) := (upd_ne (Ne.symm nqf)).trans upd_same
      refine for_it (walk_keys (d := qd.2.1) (o := od) (kvs := trueK qd.2.2)) (fun k σ H' => ∃ (y8 : Option V) (us : List Str), σ = [some (.ref a), some (.ref r), some (.ref o), some (.ref Bd), some (.ref D), some (.str x), some (.ref fa), some (.str y), y8] ∧ Same (upd H5 qd.2.1 (.frz od (.dK (trueK qd.2.2)))) H' ∧ H' fa = some (.dK (trueK us)) ∧ us.Nodup ∧ (∀ z ∈ us, z ∈ row) ∧ ∀ z, z ∈ us ↔ z ∈ addS zs y ∨ z ∈ qd.2.2.take k) ?_ ?_ ?_ ?_
      · refine ⟨_, addS zs y, rfl, sL, faL, addS_nd zn, fun z hz => ?_, fun z => ?_⟩
        · rcases addS_mem.mp hz with h | h
          · exact zr z h
          · rw [h]
            exact mrow
        · rw [List.take_zero]
          simp
      · rintro k σ H' _ ⟨y8, us, _, s9, _⟩
        exact s9 _ _ upd_same
      · rintro k v σ H9' H9 hk ⟨y8, us, rfl, s9, e9, un, ur, um⟩ ⟨rfl, kk, vv, ekv, rfl⟩
        obtain ⟨z, hz, ez⟩ : ∃ z, qd.2.2[k]? = some z ∧ kk = Sum.inr z := by
          unfold trueK at ekv
          rw [List.getElem?_map] at ekv
          cases e : qd.2.2[k]? with
          | none => rw [e] at ekv; cases ekv
          | some z =>
            rw [e] at ekv
            have := Option.some.inj ekv
            exact ⟨z, rfl, (congrArg Prod.fst this).symm⟩
        subst ez
        have ul : us.length ≤ 100 := Nat.le_trans (nd_len us row un ur) hn
        have dp9 : DPut H9 fa (.str z) (.bl true) (upd H9 fa (.dK (putK (trueK us) (.inr z) (.bl true)))) := DPut.k (k := .inr z) e9 (by unfold trueK; rw [List.length_map]; exact small1000 (by omega))
        refine ⟨.ref fa, rfl, .str z, rfl, fa, _, rfl, dp9, ?_⟩
        rw [trueK_put]
        have mz : z ∈ row := ((vq3 z).mp (List.mem_of_getElem? hz)).right
        refine ⟨_, addS us z, rfl, fun b o e => ?_, upd_same, addS_nd un, fun t ht => ?_, fun t => ?_⟩
        · have nb : b ≠ fa := fun c => by
            rw [c, upd_ne (Ne.symm nqf), hfa] at e
            cases e
          rw [upd_ne nb]
          exact s9 _ _ e
        · rcases addS_mem.mp ht with h | h
          · exact ur t h
          · rw [h]
            exact mz
        · rw [addS_mem, um t, List.take_add_one, hz, List.mem_append]
          show (t ∈ addS zs y ∨ t ∈ qd.2.2.take k) ∨ t = z ↔ t ∈ addS zs y ∨ (t ∈ qd.2.2.take k ∨ t ∈ [z])
          rw [List.mem_singleton, or_assoc]
      · rintro σ H9 ⟨y8, us, rfl, s9, e9, un, ur, um⟩
        have fin := same_unlock vq5 s9
        refine ⟨s9 _ _ upd_same, _, _, us, rfl, fin, (upd_ne (Ne.symm nqf)).trans e9, un, ur, fun z => ?_⟩
        rw [um z, show (trueK qd.2.2).length = qd.2.2.length by unfold trueK; rw [List.length_map], List.take_of_length_le (Nat.le_refl _), addS_mem, zm z, vq3 z, eq, List.take_add_one, hy]
        constructor
        · rintro ((⟨t, ht, h⟩ | h) | h)
          · exact ⟨t, List.mem_append_left _ ht, h⟩
          · exact ⟨y, List.mem_append_right _ (List.mem_singleton.mpr rfl), .inl h⟩
          · exact ⟨y, List.mem_append_right _ (List.mem_singleton.mpr rfl), .inr h⟩
        · rintro ⟨t, ht, h⟩
          rcases List.mem_append.mp ht with u | u
          · exact .inl (.inl ⟨t, u, h⟩)
          · rw [List.mem_singleton.mp u] at h
            exact h.elim (fun h => .inl (.inr h)) .inr
    rintro σ H7 ⟨y7', y8', zs, rfl, s7, d7, zn, zr, zm⟩
    rw [List.length_map, List.take_of_length_le (Nat.le_refl _)] at zm
    have d7D := s7 _ _ d5
    have nq : valV (behK qs) (Sum.inr x : Key) = none := behK_none (by
      rw [m5]
      intro z
      obtain ⟨j, hj⟩ := List.mem_iff_getElem?.mp z
      rw [List.getElem?_take] at hj
      split at hj
      · have := nd_ix gnd hj hx
        omega
      · cases hj)
    have ql : qs.length ≤ 100 := by
      have := congrArg List.length m5
      rw [List.length_map, List.length_take] at this
      omega
    have dp : DPut H7 D (.str x) (.ref fa) (upd H7 D (.dK (putK (behK qs) (.inr x) (.ref fa)))) := DPut.k (k := .inr x) d7D (by unfold behK; rw [List.length_map]; exact small1000 (by omega))
    refine ⟨.ref fa, rfl, .ref D, rfl, .str x, rfl, D, _, rfl, dp, ?_⟩
    rw [putK_new _ nq]
    have nDf : fa ≠ D := fun z => by
      rw [z, d5] at hfa
      cases hfa
    refine ⟨_, _, _, _, rfl, fun b o' e => ?_, qs ++ [(x, fa, zs)], ?_, ?_, fun qd hq => ?_⟩
    · rw [upd_ne (ne_of_none e hD)]
      exact s7 _ _ (s5 _ _ e)
    · rw [upd_same]
      unfold behK
      rw [List.map_append]
      rfl
    · rw [List.map_append, m5, List.take_add_one, hx]
      rfl
    · rcases List.mem_append.mp hq with z | z
      · obtain ⟨w1, w2, w3⟩ := v5 qd z
        have w1' : H5 qd.2.1 = some (.dK (trueK qd.2.2)) := w1
        have nqD : qd.2.1 ≠ D := fun zz => by
          rw [← zz, w1'] at d5
          have e := Option.some.inj d5
          injection e with e
          have : ((Sum.inr qd.1 : Key), V.ref qd.2.1) ∈ trueK qd.2.2 := by
            rw [e]
            exact List.mem_map.mpr ⟨qd, z, rfl⟩
          obtain ⟨_, _, h⟩ := List.mem_map.mp this
          have := congrArg Prod.snd h
          cases this
        exact ⟨(upd_ne nqD).trans (s7 _ _ w1), w2, w3⟩
      · rw [List.mem_singleton.mp z]
        refine ⟨(upd_ne nDf).trans d7, zn, fun t => ?_⟩
        rw [zm t]
        constructor
        · rintro ⟨y, hy, h⟩
          obtain ⟨my, b⟩ := (barsL_mem nd mx).mp hy
          rcases h with h | h
          · rw [h]
            exact .one mx my b
          · exact .more mx my b h
        · intro h
          cases h with
          | one _ hv b => exact ⟨t, (barsL_mem nd mx).mpr ⟨hv, b⟩, .inl rfl⟩
          | more _ hw b t' => exact ⟨_, (barsL_mem nd mx).mpr ⟨hw, b⟩, .inr t'⟩
  · rintro σ H5 ⟨y5, y6, y7, y8, rfl, s5, b5⟩
    rw [List.length_map, List.length_reverse, List.take_of_length_le (Nat.le_refl _)] at b5
    exact ⟨.ref D, rfl, q D H5 ((s1.trans s2).trans s5) ((s1.trans s2).free hD) b5⟩
abbrev sNeeded : Stmt := topS 32
abbrev nNeeded : List Str := ["behind", "who", "one"]
theorem scNeeded : FnScope nNeeded ["behind", "who"] (defScope sNeeded) := ⟨rfl, rfl, rfl, by decide +kernel, rfl, by decide +kernel, by decide +kernel⟩
theorem ok_needed {f : Addr} {fd : FuncData} (F : Fun K "needed_ahead" "needed_ahead" sNeeded f fd) : FnOk P w K mg base CX0 1 f fd ["behind", "who"] spNeeded := by
  refine fok F scNeeded (fun vs H Q E h => ?_) (fun cdv A outer s H vs Q E hr h => ?_)
  · obtain ⟨D, ps, row, xs, who, rfl, _⟩ := h
    rfl
  obtain ⟨D, ps, row, xs, who, rfl, hb, nd, ln, q⟩ := h
  have hu := hu_of hr
  refine ⟨_, pss_one (ps_ret (pe_lock (pe_lc (own := [("one", 2)]) (g := gName 2) (tt := tB (tDIn (tVar 1) (tDGet (tVar 0) (tVar 2)))) (te := tVar 2) rfl scNeeded.nd (pi_keys (pv 0)) (blkOk_by (N := nNeeded) (sc := defScope sNeeded) (by decide +kernel)) (fun _ _ _ _ _ => pg_name (i := 2) scNeeded.nd rfl (Or.inl rfl))
    (fun _ _ _ _ _ => pts_one (pt_cmp (pc_din hu (pv 1) (pe_dget hu (pv 0) (pv 2) (fun _ _ => rfl))))) (fun _ _ _ _ _ => pv 2)))), ?_⟩
  obtain ⟨qs, d0, m0, v0⟩ := hb
  have ndq : (qs.map (·.1)).Nodup := by rw [m0]; exact nd
  have lq : qs.length = xs.length := by rw [← m0, List.length_map]
  refine ⟨D, .dK (behK qs), d0, trivial, fun od => ?_⟩
  refine ⟨.ref D, rfl, D, od, rfl, .inl ⟨_, upd_same, fun L hL => ?_⟩⟩
  have nLD : L ≠ D := fun z => by rw [z, upd_same] at hL; cases hL
  refine lc_pick (walk_keys (d := D) (o := od) (kvs := behK qs)) qs (fun q => V.str q.1) (fun q => leadsB ps row q.1 who) (by unfold behK; rw [List.length_map]) (by unfold behK; rw [List.length_map]; omega) hL (fun H' s => s _ _ upd_same) ?_ ?_
  · rintro i qd v H2 H2' k k0 hq s2 ⟨rfl, kk, vv, ekv, rfl⟩ h5 h6
    unfold behK at ekv
    rw [List.getElem?_map, hq] at ekv
    have ekv' := Option.some.inj ekv
    have ek : kk = Sum.inr qd.1 := (congrArg Prod.fst ekv').symm
    subst ek
    have mq := List.mem_of_getElem? hq
    obtain ⟨w1, w2, w3⟩ := v0 qd mq
    have w1' : H qd.2.1 = some (.dK (trueK qd.2.2)) := w1
    have nqD : qd.2.1 ≠ D := fun zz => by
      rw [← zz, w1'] at d0
      have e := Option.some.inj d0
      injection e with e
      have : ((Sum.inr qd.1 : Key), V.ref qd.2.1) ∈ trueK qd.2.2 := by
        rw [e]
        exact List.mem_map.mpr ⟨qd, mq, rfl⟩
      obtain ⟨_, _, h⟩ := List.mem_map.mp this
      have := congrArg Prod.snd h
      cases this
    have g7 : DGet H2' D (.str qd.1) (some (.ref qd.2.1)) := .inl ⟨_, .inr qd.1, .inr ⟨od, s2 _ _ upd_same⟩, rfl, (behK_val ndq mq rfl).symm⟩
    have dq : H2' qd.2.1 = some (.dK (trueK qd.2.2)) := s2 _ _ ((upd_ne nqD).trans w1')
    have g8 := DGet.k (k := .inr who) dq
    rw [trueK_val] at g8
    refine ⟨rfl, .str who, rfl, .ref D, rfl, .str qd.1, rfl, D, _, rfl, g7, qd.2.1, _, rfl, g8, _, rfl, ?_⟩
    have el : (if who ∈ qd.2.2 then some (V.bl true) else none : Option V).isSome = leadsB ps row qd.1 who := by
      by_cases c : who ∈ qd.2.2
      · rw [if_pos c, leadsB_iff.mpr ((w3 who).mp c)]
        rfl
      · rw [if_neg c, leadsB_no.mpr fun z => c ((w3 who).mpr z)]
        rfl
    rw [el]
    exact ite2 (fun c => ⟨_, rfl, h5 c _ (Same.refl _)⟩) (fun c => h6 (Bool.eq_false_iff.mpr c) _ (Same.refl _))
  · intro H2 s2 e2
    refine ⟨s2 _ _ upd_same, q L _ (same_unlock d0 s2) (by rw [upd_ne nLD] at hL; exact hL) ?_⟩
    rw [upd_ne nLD, e2]
    have : (qs.filter fun q => leadsB ps row q.1 who).map (fun q => V.str q.1) = (xs.filter fun x => leadsB ps row x who).map V.str := by
      rw [← m0, List.filter_map, List.map_map]
      rfl
    rw [this]
/-! ### came_behind: all of it new -/
theorem ok_cameN {f : Addr} {fd : FuncData} (B : Blt mg) (CSo : Cal P w K mg base 6 "some_order" ["friends", "row"] spSomeO) (CBi : Cal P w K mg base 3 "barred_in" ["friends", "row"] spBarredIn) (F : Fun K "came_behind" "came_behind" sCameB f fd) : FnOk P w K mg base CX0 7 f fd ["friends", "row"] spCameN := by
  refine fok F scCameB (fun vs H Q E h => ?_) (fun cdv A outer s H vs Q E hr h => ?_)
  · obtain ⟨a, r, ps, row, rfl, _⟩ := h
    rfl
  obtain ⟨a, r, ps, row, rfl, ha, hp, irr, hrow, nd, hn, g0, q⟩ := h
  have hu := hu_of hr
  refine ⟨_, pss_cons (ps_set (i := 2) scCameB.nd rfl (.inl rfl) (pe_cal CSo hr (pa_cons (pv 0) (pa_cons (pv 1) pa_nil))))
    (pss_cons (ps_set (i := 3) scCameB.nd rfl (.inl rfl) (pe_cal CBi hr (pa_cons (pv 0) (pa_cons (pv 1) pa_nil))))
    (pss_cons (ps_set (i := 4) scCameB.nd rfl (.inl rfl) pe_dnewK)
    (pss_cons (ps_for PassesOwn.never rfl (pi_reversed (by rfl) B.reversed (pa_cons (pv 2) pa_nil)) (pg_name (i := 5) scCameB.nd rfl (.inl rfl))
      (pss_cons (ps_set (i := 6) scCameB.nd rfl (.inl rfl) pe_dnewK)
      (pss_cons (ps_for PassesOwn.never rfl (pi_list (pe_dget hu (pv 3) (pv 5) (fun _ _ => rfl))) (pg_name (i := 7) scCameB.nd rfl (.inl rfl))
        (pss_cons (ps_dput hu (pv 6) (pv 7) pe_bl rfl)
        (pss_one (ps_lock (ps_for PassesOwn.never rfl (pi_keys (pe_dget hu (pv 4) (pv 7) (fun _ _ => rfl))) (pg_name (i := 8) scCameB.nd rfl (.inl rfl)) (pss_one (ps_dput hu (pv 6) (pv 8) pe_bl rfl)))))))
      (pss_one (ps_dput hu (pv 4) (pv 5) (pv 6) rfl)))))
    (pss_one (ps_ret (pv 4)))))), ?_⟩
  have oo := gone_order irr nd g0
  have ol : (goneO ps [] row).length = row.length := by
    have := oo.len
    rw [List.length_reverse] at this
    exact this
  refine ⟨_, rfl, _, rfl, a, r, ps, row, rfl, ha, hp, hrow, nd, hn, g0, fun o H1 s1 n1 e1 => ?_⟩
  refine ⟨_, rfl, _, rfl, a, r, ps, row, rfl, ha.same s1, hp, hrow.same s1, nd, hn, fun Bd H2 s2 n2 b2 => ?_⟩
  intro D hD
  have e2 := s2 _ _ e1
  have s3 := same_upd (o := .dK []) hD
  refine ⟨.ref o, rfl, o, _, rfl, .inl (.inl (s3 _ _ e2)), ?_⟩
  have gnd : (goneO ps [] row).Nodup := by
    have := nodup_rev oo.nd
    rw [List.reverse_reverse] at this
    exact this
  refine for_it (walk_rev (xs := (goneO ps [] row).reverse.map V.str)) (fun i σ H' => ∃ (y5 y6 y7 y8 : Option V), σ = [some (.ref a), some (.ref r), some (.ref o), some (.ref Bd), some (.ref D), y5, y6, y7, y8] ∧ Same H2 H' ∧ BehN H H' D ps row ((goneO ps [] row).take i)) ?_ ?_ ?_ ?_
  · exact ⟨_, _, _, _, rfl, s3, [], upd_same, (by rw [List.take_zero]; rfl), (fun _ h => nomatch h), (fun _ h => nomatch h)⟩
  · rintro i σ H' _ ⟨y5, y6, y7, y8, _, s4, _⟩
    exact .inl (.inl (s4 _ _ e2))
  · rintro i v σ H5' H5 hi ⟨y5, y6, y7, y8, rfl, s5, qs, d5, m5, v5, n5⟩ ⟨rfl, ex⟩
    rw [List.length_map, List.length_reverse] at hi
    obtain ⟨x, hx', rfl⟩ := at_map ex
    have hx : (goneO ps [] row)[i]? = some x := by
      rw [List.length_map, List.getElem?_reverse (by rw [List.length_reverse]; omega), List.length_reverse] at hx'
      rw [show (goneO ps [] row).length - 1 - ((goneO ps [] row).length - 1 - i) = i by omega] at hx'
      exact hx'
    have mx : x ∈ row := oo.pm.mem_iff.mp (List.mem_reverse.mpr (List.mem_of_getElem? hx))
    intro fa hfa
    have s6 := same_upd (o := .dK []) hfa
    obtain ⟨kvs, kb1, kb2, kb3⟩ := b2.same (s5.trans s6)
    obtain ⟨la, lb1, lb2⟩ := kb3 x (by rw [List.take_of_length_le (Nat.le_refl _)]; exact mx)
    have g1 := DGet.k (k := .inr x) kb1
    rw [lb1] at g1
    refine ⟨.ref Bd, rfl, .str x, rfl, Bd, _, rfl, g1, la, rfl, ⟨_, .inl (.inl lb2)⟩, ?_⟩
    have nla : la ≠ fa := ne_of lb2 upd_same (fun z => nomatch z)
    have lb5 : H5 la = some (.lst ((barsL ps row x).map V.str)) := (upd_ne nla).symm.trans lb2
    have ndq : (qs.map (·.1)).Nodup := by
      rw [m5]
      exact gnd.sublist (List.take_sublist _ _)
    -- who is barred has gone already
    have bef : ∀ y ∈ barsL ps row x, ∃ qd ∈ qs, qd.1 = y := fun y hy => by
      obtain ⟨my, by_⟩ := (barsL_mem nd mx).mp hy
      have lt := oo.bars irr x mx y my by_
      have mg : y ∈ goneO ps [] row := List.mem_reverse.mp (oo.pm.mem_iff.mpr my)
      obtain ⟨j, hj⟩ := List.mem_iff_getElem?.mp mg
      have jl : j < (goneO ps [] row).length := (List.getElem?_eq_some_iff.mp hj).1
      have r1 : (goneO ps [] row).reverse[(goneO ps [] row).length - 1 - i]? = some x := by
        rw [List.getElem?_reverse (by omega), show (goneO ps [] row).length - 1 - ((goneO ps [] row).length - 1 - i) = i by omega]
        exact hx
      have r2 : (goneO ps [] row).reverse[(goneO ps [] row).length - 1 - j]? = some y := by
        rw [List.getElem?_reverse (by omega), show (goneO ps [] row).length - 1 - ((goneO ps [] row).length - 1 - j) = j by omega]
        exact hj
      rw [idx_at oo.nd r1, idx_at oo.nd r2] at lt
      have mt : y ∈ (goneO ps [] row).take i := by
        rw [List.mem_iff_getElem?]
        exact ⟨j, by rw [List.getElem?_take, if_pos (by omega)]; exact hj⟩
      rw [← m5] at mt
      obtain ⟨qd, hq, e⟩ := List.mem_map.mp mt
      exact ⟨qd, hq, e⟩
    have bl : (barsL ps row x).length ≤ 100 := Nat.le_trans (List.length_filter_le _ _) hn
    refine for_it (walk_list (xs := (barsL ps row x).map V.str)) (fun j σ H' => ∃ (y7 y8 : Option V) (zs : List Str), σ = [some (.ref a), some (.ref r), some (.ref o), some (.ref Bd), some (.ref D), some (.str x), some (.ref fa), y7, y8] ∧ Same H5 H' ∧ SetD H' fa zs ∧ zs.Nodup ∧ (∀ z ∈ zs, z ∈ row) ∧ ∀ z, z ∈ zs ↔ ∃ y ∈ (barsL ps row x).take j, z = y ∨ Leads ps row y z) ?_ ?_ ?_ ?_
    · exact ⟨_, _, [], rfl, s6, upd_same, List.nodup_nil, (fun _ h => nomatch h), fun z => ⟨(fun h => nomatch h), fun ⟨y, hy, _⟩ => by rw [List.take_zero] at hy; cases hy⟩⟩
    · rintro j σ H' _ ⟨y7, y8, zs, _, s7, _⟩
      exact .inl (.inl (s7 _ _ lb5))
    · rintro j v σ H7' H7 hj ⟨y7, y8, zs, rfl, s7, d7, zn, zr, zm⟩ ⟨rfl, ex2⟩
      obtain ⟨y, hy, rfl⟩ := at_map ex2
      have my := List.mem_of_getElem? hy
      obtain ⟨mrow, byx⟩ := (barsL_mem nd mx).mp my
      have zl : zs.length ≤ 100 := Nat.le_trans (nd_len zs row zn zr) hn
      have d7' : H7 fa = some (.dK (trueK zs)) := d7
      have dp : DPut H7 fa (.str y) (.bl true) (upd H7 fa (.dK (putK (trueK zs) (.inr y) (.bl true)))) := DPut.k (k := .inr y) d7' (by unfold trueK; rw [List.length_map]; exact small1000 (by omega))
      refine ⟨.ref fa, rfl, .str y, rfl, fa, _, rfl, dp, ?_⟩
      rw [trueK_put]
      obtain ⟨qd, hq, eq⟩ := bef y my
      obtain ⟨vq1, vq2, vq3⟩ := v5 qd hq
      have vq5 : H5 qd.2.1 = some (.dK (trueK qd.2.2)) := vq1
      have nqf : qd.2.1 ≠ fa := ne_of_none vq5 hfa
      have s8 : Same H5 (upd H7 fa (.dK (trueK (addS zs y)))) := fun b o z => by
        rw [upd_ne (ne_of_none z hfa)]
        exact s7 _ _ z
      have nqD : D ≠ qd.2.1 := fun z => by
        rw [z, vq5] at d5
        have e := Option.some.inj d5
        injection e with e
        have : ((Sum.inr qd.1 : Key), V.ref qd.2.1) ∈ trueK qd.2.2 := by
          rw [e]
          exact List.mem_map.mpr ⟨qd, hq, rfl⟩
        obtain ⟨_, _, h⟩ := List.mem_map.mp this
        have := congrArg Prod.snd h
        cases this
      have nql : qd.2.2.length ≤ 100 := Nat.le_trans (nd_len qd.2.2 row vq2 fun z hz => ((vq3 z).mp hz).right) hn
      refine ⟨qd.2.1, .dK (trueK qd.2.2), s8 _ _ vq5, trivial, fun od => ?_⟩
      have gD : DGet (upd (upd H7 fa (.dK (trueK (addS zs y)))) qd.2.1 (.frz od (.dK (trueK qd.2.2)))) D (.str y) (some (.ref qd.2.1)) := by
        have := DGet.k (k := .inr y) (kvs := behK qs) (lock_at (v := .frz od (.dK (trueK qd.2.2))) (u := .lst []) (s8 _ _ d5) nqD)
        rw [behK_val ndq hq eq] at this
        exact this
      refine ⟨.ref D, rfl, .str y, rfl, D, _, rfl, gD, qd.2.1, od, rfl, .inl ⟨_, upd_same, ?_⟩⟩
      have sL : Same (upd H5 qd.2.1 (.frz od (.dK (trueK qd.2.2)))) (upd (upd H7 fa (.dK (trueK (addS zs y)))) qd.2.1 (.frz od (.dK (trueK qd.2.2)))) := fun b o z => by
        by_cases c : b = qd.2.1
        · subst c
          rw [upd_same] at z ⊢
          exact z
        · rw [upd_ne c] at z ⊢
          exact s8 _ _ z
      have faL : upd (upd H7 fa (.dK (trueK (addS zs y)))) qd.2.1 (.frz od (.dK (trueK qd.2.2))) fa = some (.dK (trueK (addS zs y))) := (upd_ne (Ne.symm nqf)).trans upd_same
      refine for_it (walk_keys (d := qd.2.1) (o := od) (kvs := trueK qd.2.2)) (fun k σ H' => ∃ (y8 : Option V) (us : List Str), σ = [some (.ref a), some (.ref r), some (.ref o), some (.ref Bd), some (.ref D), some (.str x), some (.ref fa), some (.str y), y8] ∧ Same (upd H5 qd.2.1 (.frz od (.dK (trueK qd.2.2)))) H' ∧ H' fa = some (.dK (trueK us)) ∧ us.Nodup ∧ (∀ z ∈ us, z ∈ row) ∧ ∀ z, z ∈ us ↔ z ∈ addS zs y ∨ z ∈ qd.2.2.take k) ?_ ?_ ?_ ?_
      · refine ⟨_, addS zs y, rfl, sL, faL, addS_nd zn, fun z hz => ?_, fun z => ?_⟩
        · rcases addS_mem.mp hz with h | h
          · exact zr z h
          · rw [h]
            exact mrow
        · rw [List.take_zero]
          simp
      · rintro k σ H' _ ⟨y8, us, _, s9, _⟩
        exact s9 _ _ upd_same
      · rintro k v σ H9' H9 hk ⟨y8, us, rfl, s9, e9, un, ur, um⟩ ⟨rfl, kk, vv, ekv, rfl⟩
        obtain ⟨z, hz, ez⟩ : ∃ z, qd.2.2[k]? = some z ∧ kk = Sum.inr z := by
          unfold trueK at ekv
          rw [List.getElem?_map] at ekv
          cases e : qd.2.2[k]? with
          | none => rw [e] at ekv; cases ekv
          | some z =>
            rw [e] at ekv
            have := Option.some.inj ekv
            exact ⟨z, rfl, (congrArg Prod.fst this).symm⟩
        subst ez
        have ul : us.length ≤ 100 := Nat.le_trans (nd_len us row un ur) hn
        have dp9 : DPut H9 fa (.str z) (.bl true) (upd H9 fa (.dK (putK (trueK us) (.inr z) (.bl true)))) := DPut.k (k := .inr z) e9 (by unfold trueK; rw [List.length_map]; exact small1000 (by omega))
        refine ⟨.ref fa, rfl, .str z, rfl, fa, _, rfl, dp9, ?_⟩
        rw [trueK_put]
        have mz : z ∈ row := ((vq3 z).mp (List.mem_of_getElem? hz)).right
        refine ⟨_, addS us z, rfl, fun b o e => ?_, upd_same, addS_nd un, fun t ht => ?_, fun t => ?_⟩
        · have nb : b ≠ fa := fun c => by
            rw [c, upd_ne (Ne.symm nqf), hfa] at e
            cases e
          rw [upd_ne nb]
          exact s9 _ _ e
        · rcases addS_mem.mp ht with h | h
          · exact ur t h
          · rw [h]
            exact mz
        · rw [addS_mem, um t, List.take_add_one, hz, List.mem_append]
          show (t ∈ addS zs y ∨ t ∈ qd.2.2.take k) ∨ t = z ↔ t ∈ addS zs y ∨ (t ∈ qd.2.2.take k ∨ t ∈ [z])
          rw [List.mem_singleton, or_assoc]
      · rintro σ H9 ⟨y8, us, rfl, s9, e9, un, ur, um⟩
        have fin := same_unlock vq5 s9
        refine ⟨s9 _ _ upd_same, _, _, us, rfl, fin, (upd_ne (Ne.symm nqf)).trans e9, un, ur, fun z => ?_⟩
        rw [um z, show (trueK qd.2.2).length = qd.2.2.length by unfold trueK; rw [List.length_map], List.take_of_length_le (Nat.le_refl _), addS_mem, zm z, vq3 z, eq, List.take_add_one, hy]
        constructor
        · rintro ((⟨t, ht, h⟩ | h) | h)
          · exact ⟨t, List.mem_append_left _ ht, h⟩
          · exact ⟨y, List.mem_append_right _ (List.mem_singleton.mpr rfl), .inl h⟩
          · exact ⟨y, List.mem_append_right _ (List.mem_singleton.mpr rfl), .inr h⟩
        · rintro ⟨t, ht, h⟩
          rcases List.mem_append.mp ht with u | u
          · exact .inl (.inl ⟨t, u, h⟩)
          · rw [List.mem_singleton.mp u] at h
            exact h.elim (fun h => .inl (.inr h)) .inr
    rintro σ H7 ⟨y7', y8', zs, rfl, s7, d7, zn, zr, zm⟩
    rw [List.length_map, List.take_of_length_le (Nat.le_refl _)] at zm
    have d7D := s7 _ _ d5
    have nq : valV (behK qs) (Sum.inr x : Key) = none := behK_none (by
      rw [m5]
      intro z
      obtain ⟨j, hj⟩ := List.mem_iff_getElem?.mp z
      rw [List.getElem?_take] at hj
      split at hj
      · have := nd_ix gnd hj hx
        omega
      · cases hj)
    have ql : qs.length ≤ 100 := by
      have := congrArg List.length m5
      rw [List.length_map, List.length_take] at this
      omega
    have dp : DPut H7 D (.str x) (.ref fa) (upd H7 D (.dK (putK (behK qs) (.inr x) (.ref fa)))) := DPut.k (k := .inr x) d7D (by unfold behK; rw [List.length_map]; exact small1000 (by omega))
    refine ⟨.ref fa, rfl, .ref D, rfl, .str x, rfl, D, _, rfl, dp, ?_⟩
    rw [putK_new _ nq]
    have nDf : fa ≠ D := fun z => by
      rw [z, d5] at hfa
      cases hfa
    refine ⟨_, _, _, _, rfl, fun b o' e => ?_, qs ++ [(x, fa, zs)], ?_, ?_, fun qd hq => ?_, fun qd hq => ?_⟩
    · rw [upd_ne (ne_of_none e hD)]
      exact s7 _ _ (s5 _ _ e)
    · rw [upd_same]
      unfold behK
      rw [List.map_append]
      rfl
    · rw [List.map_append, m5, List.take_add_one, hx]
      rfl
    · rcases List.mem_append.mp hq with z | z
      · obtain ⟨w1, w2, w3⟩ := v5 qd z
        have w1' : H5 qd.2.1 = some (.dK (trueK qd.2.2)) := w1
        have nqD : qd.2.1 ≠ D := fun zz => by
          rw [← zz, w1'] at d5
          have e := Option.some.inj d5
          injection e with e
          have : ((Sum.inr qd.1 : Key), V.ref qd.2.1) ∈ trueK qd.2.2 := by
            rw [e]
            exact List.mem_map.mpr ⟨qd, z, rfl⟩
          obtain ⟨_, _, h⟩ := List.mem_map.mp this
          have := congrArg Prod.snd h
          cases this
        exact ⟨(upd_ne nqD).trans (s7 _ _ w1), w2, w3⟩
      · rw [List.mem_singleton.mp z]
        refine ⟨(upd_ne nDf).trans d7, zn, fun t => ?_⟩
        rw [zm t]
        constructor
        · rintro ⟨y, hy, h⟩
          obtain ⟨my, b⟩ := (barsL_mem nd mx).mp hy
          rcases h with h | h
          · rw [h]
            exact .one mx my b
          · exact .more mx my b h
        · intro h
          cases h with
          | one _ hv b => exact ⟨t, (barsL_mem nd mx).mpr ⟨hv, b⟩, .inl rfl⟩
          | more _ hw b t' => exact ⟨_, (barsL_mem nd mx).mpr ⟨hw, b⟩, .inr t'⟩
    · rcases List.mem_append.mp hq with z | z
      · exact n5 qd z
      · rw [List.mem_singleton.mp z]
        exact ((s1.trans s2).trans s5).free hfa
  · rintro σ H5 ⟨y5, y6, y7, y8, rfl, s5, b5⟩
    rw [List.length_map, List.length_reverse, List.take_of_length_le (Nat.le_refl _)] at b5
    exact ⟨.ref D, rfl, q D H5 ((s1.trans s2).trans s5) ((s1.trans s2).free hD) b5⟩
/-! ### put_back_bounds -/
abbrev sBounds : Stmt := topS 42
abbrev nBounds : List Str := ["friends", "row", "behind", "told", "place", "who", "ahead", "least", "other", "most"]
theorem scBounds : FnScope nBounds ["friends", "row"] (defScope sBounds) := ⟨rfl, rfl, rfl, by decide +kernel, rfl, by decide +kernel, by decide +kernel⟩
theorem ok_bounds {f : Addr} {fd : FuncData} (B : Blt mg) (CC : Cal P w K mg base 7 "came_behind" ["friends", "row"] spCameB) (CN : Cal P w K mg base 1 "needed_ahead" ["behind", "who"] spNeeded) (F : Fun K "put_back_bounds" "put_back_bounds" sBounds f fd) : FnOk P w K mg base CX0 8 f fd ["friends", "row"] spBounds := by
  refine fok F scBounds (fun vs H Q E h => ?_) (fun cdv A outer s H vs Q E hr h => ?_)
  · obtain ⟨a, r, ps, row, rfl, _⟩ := h
    rfl
  obtain ⟨a, r, ps, row, rfl, ha, hp, irr, hrow, nd, hn, g0, q⟩ := h
  have hu := hu_of hr
  refine ⟨_, pss_cons (ps_set (i := 2) scBounds.nd rfl (.inr rfl) (pe_cal CC hr (pa_cons (pv 0) (pa_cons (pv 1) pa_nil))))
    (pss_cons (ps_set (i := 3) scBounds.nd rfl (.inl rfl) (pe_lst pa_nil))
    (pss_cons (ps_for PassesOwn.never rfl (pi_rowE (by rfl) B.enumerate (pv 1)) (pg_tup rfl (pgs_cons (pg_name (i := 4) scBounds.nd rfl (.inl rfl)) (pgs_cons (pg_name (i := 5) scBounds.nd rfl (.inr rfl)) pgs_nil)))
      (pss_cons (ps_set (i := 6) scBounds.nd rfl (.inr rfl) (pe_cal CN hr (pa_cons (pv 2) (pa_cons (pv 5) pa_nil))))
      (pss_cons (ps_setLc (i := 7) (own := [("other", 8)]) (g := gName 8) (tt := tB (tDIn (tVar 8) (tDGet (tVar 2) (tVar 5)))) (te := tVar 8) rfl scBounds.nd rfl rfl (sw_true rfl rfl rfl (by decide +kernel)) (pi_row (pe_slice sl_row (pv 1) po_none (po_some (pv 4)))) (blkOk_by (N := nBounds) (sc := defScope sBounds) (by decide +kernel)) (fun _ _ _ _ _ => pg_name (i := 8) scBounds.nd rfl (Or.inl rfl)) (fun _ _ _ _ _ => pts_one (pt_cmp (pc_din hu (pv 8) (pe_dget hu (pv 2) (pv 5) (fun _ _ => rfl))))) (fun _ _ _ _ _ => pv 8))
      (pss_cons (ps_setLc (i := 9) (own := [("other", 8)]) (g := gName 8) (tt := tTest (tOp (rIn K true) (tVar 8) (tVar 6))) (te := tVar 8) rfl scBounds.nd rfl rfl (sw_true rfl rfl rfl (by decide +kernel)) (pi_row (pe_slice sl_row (pv 1) po_none (po_some (pv 4)))) (blkOk_by (N := nBounds) (sc := defScope sBounds) (by decide +kernel)) (fun _ _ _ _ _ => pg_name (i := 8) scBounds.nd rfl (Or.inl rfl)) (fun _ _ _ _ _ => pts_one (pt_cmpR op_notIn_seq (pv 8) (pv 6) (by rfl))) (fun _ _ _ _ _ => pv 8))
      (pss_one (ps_expr (pe_bm PySem.F.plainAttrs_list PySem.F.slot_list_append PySem.F.type_list_append mt_append (pv 3) (pa_cons (pe_tup (pa_cons (pv 5) (pa_cons (pe_callB call_len_seq (by rfl) B.len PySem.boot_len (pa_cons (pv 7) pa_nil)) (pa_cons (pe_callB call_len_seq (by rfl) B.len PySem.boot_len (pa_cons (pv 9) pa_nil)) pa_nil)))) pa_nil))))))))
    (pss_one (ps_ret (pv 3))))), ?_⟩
  have oo := gone_order irr nd g0
  have gl : (goneO ps [] row).length = row.length := by
    have := oo.len
    rw [List.length_reverse] at this
    exact this
  have gnd : (goneO ps [] row).Nodup := by
    have := nodup_rev oo.nd
    rw [List.reverse_reverse] at this
    exact this
  have gm : ∀ x, x ∈ goneO ps [] row ↔ x ∈ row := fun x => by rw [← oo.pm.mem_iff, List.mem_reverse]
  refine ⟨_, rfl, _, rfl, a, r, ps, row, rfl, ha, hp, irr, hrow, nd, hn, g0, fun D H1 s1 n1 b1 => ?_⟩
  refine ⟨(by show 0 ≤ sizeLine; decide), fun to hto => ?_⟩
  have s2 := same_upd (o := .lst []) hto
  have s02 := s1.trans s2
  have hto0 : H to = none := s1.free hto
  refine ⟨r, row, rfl, hrow.same s02, fun J G wk hG => ?_⟩
  refine for_it wk (fun i σ H' => ∃ (qs : List B3T) (y4 y5 y6 y7 y8 y9 : Option V), σ = [some (.ref a), some (.ref r), some (.ref D), some (.ref to), y4, y5, y6, y7, y8, y9] ∧ Same H H' ∧ BehAt H' D ps row (goneO ps [] row) ∧ H' to = some (.lst (refsT qs)) ∧ TripAt H' qs ∧ qs.map (·.2) = boundsL ps row i) ?_ ?_ ?_ ?_
  · exact ⟨[], _, _, _, _, _, _, rfl, s02, b1.same s2, upd_same, (fun _ h => nomatch h), rfl⟩
  · rintro i σ H' _ ⟨qs, y4, y5, y6, y7, y8, y9, _, s3, _⟩
    exact hG H' (((hrow.kept s3)).trans (hrow.kept s02).symm)
  · rintro i v σ H3 H4 hi ⟨qs, y4, y5, y6, y7, y8, y9, rfl, s3, b3, t3, p3, m3⟩ ⟨T, x1, x2, rfl, nT, rfl, e1, e2⟩
    cases e1
    obtain ⟨x, hx, rfl⟩ := at_map e2
    rw [List.length_map] at hi
    have sT := same_upd (o := .tup [.int (i : Nat), .str x]) nT
    have mx := List.mem_of_getElem? hx
    refine ⟨T, _, rfl, .inl (.inl upd_same), rfl, _, _, rfl, _, _, rfl, rfl, ?_⟩
    -- ahead
    refine ⟨_, rfl, _, rfl, D, ps, row, _, x, rfl, b3.same sT, gnd, by omega, fun ah H5 s5 n5 e5 => ?_⟩
    have s35 := sT.trans s5
    have s05 := s3.trans s35
    have row5 := hrow.same s05
    -- least
    refine ⟨.ref r, rfl, _, rfl, _, rfl, r, row, rfl, row5, fun c6 H6 s6 r6 => ?_⟩
    rw [cutL_to] at r6
    refine ⟨c6, _, rfl, r6, fun J2 G2 wk2 hG2 L hL => ?_⟩
    obtain ⟨qb, d6, mb, vb⟩ := b3.same (s35.trans s6)
    obtain ⟨qd, hqd, eqd⟩ : ∃ qd ∈ qb, qd.1 = x := by
      have : x ∈ qb.map (·.1) := by rw [mb]; exact (gm x).mpr mx
      obtain ⟨qd, h1, h2⟩ := List.mem_map.mp this
      exact ⟨qd, h1, h2⟩
    obtain ⟨w1, w2, w3⟩ := vb qd hqd
    have w1' : H6 qd.2.1 = some (.dK (trueK qd.2.2)) := w1
    have ndq : (qb.map (·.1)).Nodup := by rw [mb]; exact gnd
    refine lc_take wk2 (leadsB ps row x) (by rw [List.length_take]; omega) hL (fun H' s => hG2 H' (r6.kept s)) ?_ ?_
    · rintro k y v H7 H7' kk k0 hy s7 ⟨rfl, ex2⟩ k1 k2
      rw [ix_map hy] at ex2
      cases ex2
      have g1 := DGet.k (k := .inr x) (s7 _ _ d6)
      rw [behK_val ndq hqd eqd] at g1
      have g2 := DGet.k (k := .inr y) (s7 _ _ w1')
      rw [trueK_val] at g2
      refine ⟨rfl, .str y, rfl, .ref D, rfl, .str x, rfl, D, _, rfl, g1, qd.2.1, _, rfl, g2, _, rfl, ?_⟩
      have el : (if y ∈ qd.2.2 then some (V.bl true) else none : Option V).isSome = leadsB ps row x y := by
        by_cases c : y ∈ qd.2.2
        · rw [if_pos c, leadsB_iff.mpr (eqd ▸ (w3 y).mp c)]
          rfl
        · rw [if_neg c, leadsB_no.mpr fun z => c ((w3 y).mpr (eqd ▸ z))]
          rfl
      rw [el]
      exact ite2 (fun c => ⟨_, rfl, k1 c _ (Same.refl _)⟩) (fun c => k2 (Bool.eq_false_iff.mpr c) _ (Same.refl _))
    intro H7 s7 e7
    -- most
    have s37 := (s35.trans s6).trans s7
    have s07 := s3.trans s37
    refine ⟨.ref r, rfl, _, rfl, _, rfl, r, row, rfl, hrow.same s07, fun c8 H8 s8 r8 => ?_⟩
    rw [cutL_to] at r8
    refine ⟨c8, _, rfl, r8, fun J3 G3 wk3 hG3 L2 hL2 => ?_⟩
    have ah8 := s8 _ _ (s7 _ _ (s6 _ _ e5))
    refine lc_take wk3 (fun y => !leadsB ps row y x) (by rw [List.length_take]; omega) hL2 (fun H' s => hG3 H' (r8.kept s)) ?_ ?_
    · rintro k y v H9 H9' kk k0 hy s9 ⟨rfl, ex2⟩ k1 k2
      rw [ix_map hy] at ex2
      cases ex2
      have myr : y ∈ row := List.mem_of_mem_take (List.mem_of_getElem? hy)
      refine ⟨rfl, .str y, rfl, .ref ah, rfl, ah, _, rfl, .inl (.inl (.inl (s9 _ _ ah8))), rfl, flat_strs _, _, rfl, ?_⟩
      rw [inV_strs]
      have el : (!decide (y ∈ (goneO ps [] row).filter fun z => leadsB ps row z x)) = !leadsB ps row y x := by
        congr 1
        cases e : leadsB ps row y x with
        | true => exact decide_eq_true (List.mem_filter.mpr ⟨(gm y).mpr myr, e⟩)
        | false =>
          refine decide_eq_false fun z => ?_
          have := (List.mem_filter.mp z).2
          rw [e] at this
          cases this
      show (if (!decide (y ∈ (goneO ps [] row).filter fun z => leadsB ps row z x)) = true then _ else _)
      rw [el]
      exact ite2 (fun c => ⟨_, rfl, k1 c _ (Same.refl _)⟩) (fun c => k2 (Bool.eq_false_iff.mpr c) _ (Same.refl _))
    intro H9 s9 e9
    have s39 := (s37.trans s8).trans s9
    have t9 := s39 _ _ t3
    refine ⟨.ref to, rfl, .inl ⟨rfl, _, .inl (.inl t9)⟩, .str x, rfl, .ref L, rfl, L, _, rfl, .inl (.inl (.inl (s9 _ _ (s8 _ _ e7)))), .ref L2, rfl, L2, _, rfl, .inl (.inl (.inl e9)), (by show 3 ≤ sizeLine; decide), fun T2 hT2 => ?_⟩
    rw [List.length_map, List.length_map]
    have sT2 := same_upd (o := .tup [.str x, .int (leastN ps row x i : Nat), .int (mostN ps row x i : Nat)]) hT2
    have s310 := s39.trans sT2
    have t10 := sT2 _ _ t9
    refine ⟨to, _, _, rfl, rfl, t10, ?_, ?_⟩
    · unfold refsT
      rw [List.length_map]
      have := congrArg List.length m3
      rw [List.length_map, boundsL_len ps row (by omega)] at this
      exact small1000 (by omega)
    refine ⟨qs ++ [(T2, x, leastN ps row x i, mostN ps row x i)], _, _, _, _, _, _, rfl, fun b o' e => ?_, ?_, ?_, ?_, ?_⟩
    · rw [upd_ne (ne_of_none e hto0)]
      exact s310 _ _ (s3 _ _ e)
    · obtain ⟨qb', d', mb', vb'⟩ := b3.same s310
      refine ⟨qb', (upd_ne (ne_of d' t10 (fun z => nomatch z))).trans d', mb', fun q' hq' => ?_⟩
      obtain ⟨z1, z2⟩ := vb' q' hq'
      have z1' : _ = some (HO.dK (trueK q'.2.2)) := z1
      exact ⟨(upd_ne (ne_of z1' t10 (fun z => nomatch z))).trans z1', z2⟩
    · rw [upd_same]
      unfold refsT
      rw [List.map_append]
      rfl
    · intro q' hq'
      rcases List.mem_append.mp hq' with z | z
      · exact ((p3.same s310).upd_ t10) q' z
      · rw [List.mem_singleton.mp z]
        have nT2 : T2 ≠ to := fun z => by rw [z, t9] at hT2; cases hT2
        exact (upd_ne nT2).trans upd_same
    · rw [List.map_append, m3, boundsL_step hx]
      rfl
  · rintro σ H3 ⟨qs, y4, y5, y6, y7, y8, y9, rfl, s3, b3, t3, p3, m3⟩
    rw [List.length_map] at m3
    exact ⟨.ref to, rfl, q to qs H3 s3 hto0 t3 p3 m3⟩
/-! ### earliest -/
abbrev sErl : Stmt := topS 33
abbrev nErl : List Str := ["friends", "row", "who"]
abbrev pErl : List Str := ["friends", "row", "who"]
theorem scErl : FnScope nErl pErl (defScope sErl) := ⟨rfl, rfl, rfl, by decide +kernel, rfl, by decide +kernel, by decide +kernel⟩
-- slots: 0:friends 1:row 2:who
theorem ok_erl {f : Addr} {fd : FuncData} (B : Blt mg) (CCb : Cal P w K mg base 7 "came_behind" ["friends", "row"] spCameB) (CNa : Cal P w K mg base 1 "needed_ahead" ["behind", "who"] spNeeded) (F : Fun K "earliest" "earliest" sErl f fd) : FnOk P w K mg base CX0 8 f fd pErl spErl := by
  refine fok F scErl (fun vs H Q E h => ?_) (fun cdv A outer s H vs Q E hr h => ?_)
  · obtain ⟨a, r, ps, row, who, rfl, _⟩ := h
    rfl
  have hu := hu_of hr
  refine ⟨_, pss_one (ps_ret (pe_callB call_len_seq (by rfl) B.len PySem.boot_len (pa_cons (pe_cal CNa hr (pa_cons (pe_cal CCb hr (pa_cons (pv 0) (pa_cons (pv 1) pa_nil))) (pa_cons (pv 2) pa_nil))) pa_nil))), ?_⟩
  obtain ⟨a, r, ps, row, who, rfl, ha, hp, irr, hrow, nd, hn, g0, hw, q⟩ := h
  have oo := gone_order irr nd g0
  have gnd : (goneO ps [] row).Nodup := by
    have := nodup_rev oo.nd
    rwa [List.reverse_reverse] at this
  have gm : ∀ y, y ∈ goneO ps [] row ↔ y ∈ row := fun y => by
    rw [← List.mem_reverse]
    exact oo.pm.mem_iff
  have gl : (goneO ps [] row).length = row.length := by
    have := oo.len
    rwa [List.length_reverse] at this
  refine ⟨_, rfl, _, rfl, a, r, ps, row, rfl, ha, hp, irr, hrow, nd, hn, g0, fun D H1 s1 nD b1 => ?_⟩
  refine ⟨_, rfl, D, ps, row, _, who, rfl, b1, gnd, by omega, fun p H2 s2 np e2 => ?_⟩
  refine ⟨p, _, rfl, .inl (.inl (.inl e2)), ?_⟩
  rw [List.length_map]
  have : ((goneO ps [] row).filter fun x => leadsB ps row x who).length = (ahdL ps row who).length := len_of_mem (gnd.sublist List.filter_sublist) (ahdL_nd nd) fun z => by
    rw [List.mem_filter, leadsB_iff, ahdL_mem]
    exact ⟨fun h => h.2, fun h => ⟨(gm z).mpr h.left, h⟩⟩
  rw [this]
  exact q H2 (s1.trans s2)
/-! ### latest -/
abbrev sLat : Stmt := topS 34
abbrev nLat : List Str := ["friends", "row", "who"]
abbrev pLat : List Str := ["friends", "row", "who"]
theorem scLat : FnScope nLat pLat (defScope sLat) := ⟨rfl, rfl, rfl, by decide +kernel, rfl, by decide +kernel, by decide +kernel⟩
-- slots: 0:friends 1:row 2:who
theorem ok_lat {f : Addr} {fd : FuncData} (B : Blt mg) (CCb : Cal P w K mg base 7 "came_behind" ["friends", "row"] spCameB) (F : Fun K "latest" "latest" sLat f fd) : FnOk P w K mg base CX0 8 f fd pLat spLat := by
  refine fok F scLat (fun vs H Q E h => ?_) (fun cdv A outer s H vs Q E hr h => ?_)
  · obtain ⟨a, r, ps, row, who, rfl, _⟩ := h
    rfl
  have hu := hu_of hr
  refine ⟨_, pss_one (ps_ret (pe_op op_sub (pe_op op_sub (pe_callB call_len_seq (by rfl) B.len PySem.boot_len (pa_cons (pv 1) pa_nil)) pe_int) (pe_callB call_lenD (by rfl) B.len PySem.boot_len (pa_cons (pe_dget hu (pe_cal CCb hr (pa_cons (pv 0) (pa_cons (pv 1) pa_nil))) (pv 2) (fun _ _ => rfl)) pa_nil)))), ?_⟩
  obtain ⟨a, r, ps, row, who, rfl, ha, hp, irr, hrow, nd, hn, g0, hw, q⟩ := h
  have oo := gone_order irr nd g0
  have gnd : (goneO ps [] row).Nodup := by
    have := nodup_rev oo.nd
    rwa [List.reverse_reverse] at this
  have gm : ∀ y, y ∈ goneO ps [] row ↔ y ∈ row := fun y => by
    rw [← List.mem_reverse]
    exact oo.pm.mem_iff
  have ll := late_len irr nd g0 hw
  refine ⟨_, rfl, r, _, rfl, hrow.sq, _, _, rfl, rfl, ?_⟩
  refine ⟨_, rfl, _, rfl, a, r, ps, row, rfl, ha, hp, irr, hrow, nd, hn, g0, fun D H1 s1 nD b1 => ?_⟩
  obtain ⟨qs, d1, m1, v1⟩ := b1
  obtain ⟨qd, hqd, eqd⟩ : ∃ q ∈ qs, q.1 = who := by
    have : who ∈ qs.map (·.1) := by rw [m1]; exact (gm who).mpr hw
    obtain ⟨q', h1, h2⟩ := List.mem_map.mp this
    exact ⟨q', h1, h2⟩
  obtain ⟨w1, w2, w3⟩ := v1 qd hqd
  have ndq : (qs.map (·.1)).Nodup := by rw [m1]; exact gnd
  have g1 := DGet.k (k := .inr who) d1
  rw [behK_val ndq hqd eqd] at g1
  refine ⟨_, rfl, D, _, rfl, g1, qd.2.1, _, rfl, w1, _, _, rfl, rfl, ?_⟩
  have el : (trueK qd.2.2).length = (behL ps row who).length := by
    unfold trueK
    rw [List.length_map]
    exact len_of_mem w2 (behL_nd nd) fun z => by rw [w3 z, behL_mem, eqd]
  rw [el, List.length_map]
  have := q H1 s1
  rw [show ((row.length - 1 - (behL ps row who).length : Nat) : Int) = (row.length : Int) - 1 - ((behL ps row who).length : Nat) by omega] at this
  exact this
/-! ### early_order -/
abbrev sEOr : Stmt := topS 35
abbrev nEOr : List Str := ["friends", "row", "who", "ahead", "order", "first", "one"]
abbrev pEOr : List Str := ["friends", "row", "who"]
theorem scEOr : FnScope nEOr pEOr (defScope sEOr) := ⟨rfl, rfl, rfl, by decide +kernel, rfl, by decide +kernel, by decide +kernel⟩
-- slots: 0:friends 1:row 2:who* 3:ahead* 4:order 5:first 6:one
theorem ok_eOr {f : Addr} {fd : FuncData} (B : Blt mg) (CCb : Cal P w K mg base 7 "came_behind" ["friends", "row"] spCameB) (CNa : Cal P w K mg base 1 "needed_ahead" ["behind", "who"] spNeeded) (CSo : Cal P w K mg base 6 "some_order" ["friends", "row"] spSomeO) (F : Fun K "early_order" "early_order" sEOr f fd) : FnOk P w K mg base CX0 8 f fd pEOr spEOr := by
  refine fok F scEOr (fun vs H Q E h => ?_) (fun cdv A outer s H vs Q E hr h => ?_)
  · obtain ⟨a, r, ps, row, who, rfl, _⟩ := h
    rfl
  have hu := hu_of hr
  refine ⟨_, pss_cons (ps_set (i := 3) scEOr.nd rfl (.inr rfl) (pe_cal CNa hr (pa_cons (pe_cal CCb hr (pa_cons (pv 0) (pa_cons (pv 1) pa_nil))) (pa_cons (pv 2) pa_nil))))
    (pss_cons (ps_set (i := 4) scEOr.nd rfl (.inl rfl) (pe_cal CSo hr (pa_cons (pv 0) (pa_cons (pv 1) pa_nil))))
    (pss_cons (ps_setLc (i := 5) (own := [("one", 6)]) (g := gName 6) (tt := tTest (tOp (rIn K false) (tVar 6) (tVar 3))) (te := tVar 6) rfl scEOr.nd rfl rfl (sw_true rfl rfl rfl (by decide +kernel)) (pi_list (pv 4)) (blkOk_by (N := nEOr) (sc := defScope sEOr) (by decide +kernel)) (fun _ _ _ _ _ => pg_name (i := 6) scEOr.nd rfl (Or.inl rfl)) (fun _ _ _ _ _ => pts_one (pt_cmpR op_in_seq (pv 6) (pv 3) (by rfl))) (fun _ _ _ _ _ => pv 6))
    (pss_one (ps_ret (pe_op op_cat (pe_op op_cat (pv 5) (pe_lst (pa_cons (pv 2) pa_nil))) (pe_lc (own := [("one", 6)]) (g := gName 6) (tt := tAnd (tTest (tOp (rIn K true) (tVar 6) (tVar 3))) (tTest (tOp rNe (tVar 6) (tVar 2)))) (te := tVar 6) rfl scEOr.nd (pi_list (pv 4)) (blkOk_by (N := nEOr) (sc := defScope sEOr) (by decide +kernel)) (fun _ _ _ _ _ => pg_name (i := 6) scEOr.nd rfl (Or.inl rfl)) (fun _ _ _ _ _ => pts_one (PW.pt (pw_and (pt_cmpR op_notIn_seq (pv 6) (pv 3) (by rfl)) (pw_and1 (pt_cmpR op_ne (pv 6) (pv 2) (nomark _)))))) (fun _ _ _ _ _ => pv 6))))))), ?_⟩
  obtain ⟨a, r, ps, row, who, rfl, ha, hp, irr, hrow, nd, hn, g0, hw, q⟩ := h
  have oo := gone_order irr nd g0
  have gnd : (goneO ps [] row).Nodup := by
    have := nodup_rev oo.nd
    rwa [List.reverse_reverse] at this
  have gm : ∀ y, y ∈ goneO ps [] row ↔ y ∈ row := fun y => by
    rw [← List.mem_reverse]
    exact oo.pm.mem_iff
  have gl : (goneO ps [] row).length = row.length := by
    have := oo.len
    rwa [List.length_reverse] at this
  have stE : ∀ (y : Str), decide (V.str y = V.str who) = decide (y = who) := fun y => decide_eq_decide.mpr ⟨fun z => V.str.inj z, fun z => congrArg V.str z⟩
  refine ⟨_, rfl, _, rfl, a, r, ps, row, rfl, ha, hp, irr, hrow, nd, hn, g0, fun D H1 s1 nD b1 => ?_⟩
  refine ⟨_, rfl, D, ps, row, _, who, rfl, b1, gnd, by omega, fun p H2 s2 np e2 => ?_⟩
  obtain ⟨ah, hah⟩ : ∃ ah, (goneO ps [] row).filter (fun x => leadsB ps row x who) = ah := ⟨_, rfl⟩
  rw [hah] at e2
  have mah : ∀ y ∈ row, decide (y ∈ ah) = leadsB ps row y who := fun y hy => by
    rw [Bool.eq_iff_iff, decide_eq_true_iff, ← hah, List.mem_filter]
    exact ⟨fun h => h.2, fun h => ⟨(gm y).mpr hy, h⟩⟩
  have s12 := s1.trans s2
  refine ⟨_, rfl, _, rfl, a, r, ps, row, rfl, ha.same s12, hp, hrow.same s12, nd, hn, g0, fun o H3 s3 no e3 => ?_⟩
  have s13 := s12.trans s3
  obtain ⟨ord, hord⟩ : ∃ ord, (goneO ps [] row).reverse = ord := ⟨_, rfl⟩
  rw [hord] at e3 oo
  have lo : ord.length ≤ 100 := by rw [oo.len]; exact hn
  have mo : ∀ {i : Nat} {y : Str}, ord[i]? = some y → y ∈ row := fun h => oo.pm.mem_iff.mp (List.mem_of_getElem? h)
  refine ⟨_, rfl, o, rfl, ⟨_, .inl (.inl e3)⟩, fun L hL => ?_⟩
  refine lc_take (walk_list (xs := ord.map V.str)) (fun y => leadsB ps row y who) (by omega) hL (fun H' s => .inl (.inl (s _ _ e3))) ?_ ?_
  · rintro i y v H4 H4' kk k0 hy s4 ⟨rfl, ex⟩ k1 k2
    rw [ix_map hy] at ex
    cases ex
    refine ⟨rfl, _, rfl, _, rfl, p, _, rfl, .inl (.inl (.inl (s4 _ _ (s3 _ _ e2)))), rfl, flat_strs _, _, rfl, ?_⟩
    rw [inV_strs, mah y (mo hy)]
    exact ite2 (fun c => ⟨_, rfl, k1 c _ (Same.refl _)⟩) (fun c => k2 (Bool.eq_false_iff.mpr c) _ (Same.refl _))
  intro H4 s4 e4
  refine ⟨.ref L, rfl, .str who, rfl, (by show 1 ≤ sizeLine; decide), fun w1 hw1 => ?_⟩
  have s5 := same_upd (o := .lst [V.str who]) hw1
  refine ⟨L, w1, _, _, rfl, rfl, s5 _ _ e4, upd_same, ?_, fun c1 hc1 => ?_⟩
  · rw [List.length_map]
    have := List.length_filter_le (fun y => leadsB ps row y who) ord
    exact small_le (by show _ + 1 ≤ 1000; omega)
  have s6 := same_upd (o := .lst ((ord.filter fun y => leadsB ps row y who).map V.str ++ [V.str who])) hc1
  have s36 := (s4.trans s5).trans s6
  refine ⟨_, rfl, o, rfl, ⟨_, .inl (.inl (s36 _ _ e3))⟩, fun L2 hL2 => ?_⟩
  refine lc_take (walk_list (xs := ord.map V.str)) (fun y => !leadsB ps row y who && !decide (y = who)) (by omega) hL2 (fun H' s => .inl (.inl (s _ _ (s36 _ _ e3)))) ?_ ?_
  · rintro i y v H7 H7' kk k0 hy s7 ⟨rfl, ex⟩ k1 k2
    rw [ix_map hy] at ex
    cases ex
    refine ⟨rfl, _, rfl, _, rfl, p, _, rfl, .inl (.inl (.inl (s7 _ _ (s36 _ _ (s3 _ _ e2))))), rfl, flat_strs _, _, rfl, ?_⟩
    rw [inV_strs, mah y (mo hy)]
    refine ite2 (fun c => ?_) (fun c => k2 (by rw [Bool.and_eq_false_iff]; exact .inl (Bool.eq_false_iff.mpr c)) _ (Same.refl _))
    refine ⟨_, rfl, _, rfl, rfl, _, rfl, ?_⟩
    rw [stE]
    exact ite2 (fun c2 => ⟨_, rfl, k1 (by rw [Bool.and_eq_true]; exact ⟨c, c2⟩) _ (Same.refl _)⟩) (fun c2 => k2 (by rw [Bool.and_eq_false_iff]; exact .inr (Bool.eq_false_iff.mpr c2)) _ (Same.refl _))
  intro H7 s7 e7
  refine ⟨c1, L2, _, _, rfl, rfl, s7 _ _ upd_same, e7, ?_, fun c2 hc2 => ?_⟩
  · rw [List.length_append, List.length_map, List.length_map]
    have h1 := List.length_filter_le (fun y => leadsB ps row y who) ord
    have h2 := List.length_filter_le (fun y => !leadsB ps row y who && !decide (y = who)) ord
    exact small_le (by show _ + 1 + _ ≤ 1000; omega)
  have s8 := same_upd (o := .lst ((ord.filter fun y => leadsB ps row y who).map V.str ++ [V.str who] ++ (ord.filter fun y => !leadsB ps row y who && !decide (y = who)).map V.str)) hc2
  have s18 := ((s13.trans s36).trans s7).trans s8
  refine q c2 _ s18 (((s13.trans s36).trans s7).free hc2) ?_
  rw [upd_same, hord]
  unfold earlyO
  rw [List.map_append, List.map_append]
  rfl
/-! ### late_order -/
abbrev sLOr : Stmt := topS 36
abbrev nLOr : List Str := ["friends", "row", "who", "behind", "order", "first", "one"]
abbrev pLOr : List Str := ["friends", "row", "who"]
theorem scLOr : FnScope nLOr pLOr (defScope sLOr) := ⟨rfl, rfl, rfl, by decide +kernel, rfl, by decide +kernel, by decide +kernel⟩
-- slots: 0:friends 1:row 2:who* 3:behind* 4:order 5:first 6:one
theorem ok_lOr {f : Addr} {fd : FuncData} (B : Blt mg) (CCb : Cal P w K mg base 7 "came_behind" ["friends", "row"] spCameB) (CSo : Cal P w K mg base 6 "some_order" ["friends", "row"] spSomeO) (F : Fun K "late_order" "late_order" sLOr f fd) : FnOk P w K mg base CX0 8 f fd pLOr spLOr := by
  refine fok F scLOr (fun vs H Q E h => ?_) (fun cdv A outer s H vs Q E hr h => ?_)
  · obtain ⟨a, r, ps, row, who, rfl, _⟩ := h
    rfl
  have hu := hu_of hr
  refine ⟨_, pss_cons (ps_set (i := 3) scLOr.nd rfl (.inr rfl) (pe_dget hu (pe_cal CCb hr (pa_cons (pv 0) (pa_cons (pv 1) pa_nil))) (pv 2) (fun _ _ => rfl)))
    (pss_cons (ps_set (i := 4) scLOr.nd rfl (.inl rfl) (pe_cal CSo hr (pa_cons (pv 0) (pa_cons (pv 1) pa_nil))))
    (pss_cons (ps_setLc (i := 5) (own := [("one", 6)]) (g := gName 6) (tt := tAnd (tB (tDNotIn (tVar 6) (tVar 3))) (tTest (tOp rNe (tVar 6) (tVar 2)))) (te := tVar 6) rfl scLOr.nd rfl rfl (sw_true rfl rfl rfl (by decide +kernel)) (pi_list (pv 4)) (blkOk_by (N := nLOr) (sc := defScope sLOr) (by decide +kernel)) (fun _ _ _ _ _ => pg_name (i := 6) scLOr.nd rfl (Or.inl rfl)) (fun _ _ _ _ _ => pts_one (PW.pt (pw_and (pt_cmp (pc_dnotin hu (pv 6) (pv 3))) (pw_and1 (pt_cmpR op_ne (pv 6) (pv 2) (nomark _)))))) (fun _ _ _ _ _ => pv 6))
    (pss_one (ps_ret (pe_op op_cat (pe_op op_cat (pv 5) (pe_lst (pa_cons (pv 2) pa_nil))) (pe_lc (own := [("one", 6)]) (g := gName 6) (tt := tB (tDIn (tVar 6) (tVar 3))) (te := tVar 6) rfl scLOr.nd (pi_list (pv 4)) (blkOk_by (N := nLOr) (sc := defScope sLOr) (by decide +kernel)) (fun _ _ _ _ _ => pg_name (i := 6) scLOr.nd rfl (Or.inl rfl)) (fun _ _ _ _ _ => pts_one (pt_cmp (pc_din hu (pv 6) (pv 3)))) (fun _ _ _ _ _ => pv 6))))))), ?_⟩
  obtain ⟨a, r, ps, row, who, rfl, ha, hp, irr, hrow, nd, hn, g0, hw, q⟩ := h
  have oo := gone_order irr nd g0
  have gnd : (goneO ps [] row).Nodup := by
    have := nodup_rev oo.nd
    rwa [List.reverse_reverse] at this
  have gm : ∀ y, y ∈ goneO ps [] row ↔ y ∈ row := fun y => by
    rw [← List.mem_reverse]
    exact oo.pm.mem_iff
  have gl : (goneO ps [] row).length = row.length := by
    have := oo.len
    rwa [List.length_reverse] at this
  have stE : ∀ (y : Str), decide (V.str y = V.str who) = decide (y = who) := fun y => decide_eq_decide.mpr ⟨fun z => V.str.inj z, fun z => congrArg V.str z⟩
  refine ⟨_, rfl, _, rfl, a, r, ps, row, rfl, ha, hp, irr, hrow, nd, hn, g0, fun D H1 s1 nD b1 => ?_⟩
  obtain ⟨qs, d1, m1, v1⟩ := b1
  obtain ⟨qd, hqd, eqd⟩ : ∃ q ∈ qs, q.1 = who := by
    have : who ∈ qs.map (·.1) := by rw [m1]; exact (gm who).mpr hw
    obtain ⟨q', h1, h2⟩ := List.mem_map.mp this
    exact ⟨q', h1, h2⟩
  obtain ⟨w1, w2, w3⟩ := v1 qd hqd
  have w1' : H1 qd.2.1 = some (.dK (trueK qd.2.2)) := w1
  have ndq : (qs.map (·.1)).Nodup := by rw [m1]; exact gnd
  have g1 := DGet.k (k := .inr who) d1
  rw [behK_val ndq hqd eqd] at g1
  refine ⟨_, rfl, D, _, rfl, g1, ?_⟩
  have inB : ∀ (y : Str), (if y ∈ qd.2.2 then some (V.bl true) else none : Option V).isSome = leadsB ps row who y := fun y => by
    by_cases c : y ∈ qd.2.2
    · rw [if_pos c, leadsB_iff.mpr (eqd ▸ (w3 y).mp c)]
      rfl
    · rw [if_neg c, leadsB_no.mpr fun z => c ((w3 y).mpr (eqd ▸ z))]
      rfl
  refine ⟨_, rfl, _, rfl, a, r, ps, row, rfl, ha.same s1, hp, hrow.same s1, nd, hn, g0, fun o H3 s3 no e3 => ?_⟩
  have s13 := s1.trans s3
  obtain ⟨ord, hord⟩ : ∃ ord, (goneO ps [] row).reverse = ord := ⟨_, rfl⟩
  rw [hord] at e3 oo
  have lo : ord.length ≤ 100 := by rw [oo.len]; exact hn
  refine ⟨_, rfl, o, rfl, ⟨_, .inl (.inl e3)⟩, fun L hL => ?_⟩
  refine lc_take (walk_list (xs := ord.map V.str)) (fun y => !leadsB ps row who y && !decide (y = who)) (by omega) hL (fun H' s => .inl (.inl (s _ _ e3))) ?_ ?_
  · rintro i y v H7 H7' kk k0 hy s7 ⟨rfl, ex⟩ k1 k2
    rw [ix_map hy] at ex
    cases ex
    have g2 := DGet.k (k := .inr y) (s7 _ _ (s3 _ _ w1'))
    rw [trueK_val] at g2
    refine ⟨rfl, _, rfl, _, rfl, qd.2.1, _, rfl, g2, _, rfl, ?_⟩
    rw [inB]
    refine ite2 (fun c => ?_) (fun c => k2 (by rw [Bool.and_eq_false_iff]; exact .inl (Bool.eq_false_iff.mpr c)) _ (Same.refl _))
    refine ⟨_, rfl, _, rfl, rfl, _, rfl, ?_⟩
    rw [stE]
    exact ite2 (fun c2 => ⟨_, rfl, k1 (by rw [Bool.and_eq_true]; exact ⟨c, c2⟩) _ (Same.refl _)⟩) (fun c2 => k2 (by rw [Bool.and_eq_false_iff]; exact .inr (Bool.eq_false_iff.mpr c2)) _ (Same.refl _))
  intro H4 s4 e4
  refine ⟨.ref L, rfl, .str who, rfl, (by show 1 ≤ sizeLine; decide), fun w1 hw1 => ?_⟩
  have s5 := same_upd (o := .lst [V.str who]) hw1
  refine ⟨L, w1, _, _, rfl, rfl, s5 _ _ e4, upd_same, ?_, fun c1 hc1 => ?_⟩
  · rw [List.length_map]
    have := List.length_filter_le (fun y => !leadsB ps row who y && !decide (y = who)) ord
    exact small_le (by show _ + 1 ≤ 1000; omega)
  have s6 := same_upd (o := .lst ((ord.filter fun y => !leadsB ps row who y && !decide (y = who)).map V.str ++ [V.str who])) hc1
  have s36 := (s4.trans s5).trans s6
  refine ⟨_, rfl, o, rfl, ⟨_, .inl (.inl (s36 _ _ e3))⟩, fun L2 hL2 => ?_⟩
  refine lc_take (walk_list (xs := ord.map V.str)) (leadsB ps row who) (by omega) hL2 (fun H' s => .inl (.inl (s _ _ (s36 _ _ e3)))) ?_ ?_
  · rintro i y v H7 H7' kk k0 hy s7 ⟨rfl, ex⟩ k1 k2
    rw [ix_map hy] at ex
    cases ex
    have g2 := DGet.k (k := .inr y) (s7 _ _ (s36 _ _ (s3 _ _ w1')))
    rw [trueK_val] at g2
    refine ⟨rfl, _, rfl, _, rfl, qd.2.1, _, rfl, g2, _, rfl, ?_⟩
    rw [inB]
    exact ite2 (fun c => ⟨_, rfl, k1 c _ (Same.refl _)⟩) (fun c => k2 (Bool.eq_false_iff.mpr c) _ (Same.refl _))
  intro H7 s7 e7
  refine ⟨c1, L2, _, _, rfl, rfl, s7 _ _ upd_same, e7, ?_, fun c2 hc2 => ?_⟩
  · rw [List.length_append, List.length_map, List.length_map]
    have h1 := List.length_filter_le (leadsB ps row who) ord
    have h2 := List.length_filter_le (fun y => !leadsB ps row who y && !decide (y = who)) ord
    exact small_le (by show _ + 1 + _ ≤ 1000; omega)
  have s8 := same_upd (o := .lst ((ord.filter fun y => !leadsB ps row who y && !decide (y = who)).map V.str ++ [V.str who] ++ (ord.filter (leadsB ps row who)).map V.str)) hc2
  have s18 := ((s13.trans s36).trans s7).trans s8
  refine q c2 _ s18 (((s13.trans s36).trans s7).free hc2) ?_
  rw [upd_same, hord]
  unfold lateO
  rw [List.map_append, List.map_append]
  rfl
/-! ### came_ahead -/
abbrev sAhead : Stmt := topS 37
abbrev nAhead : List Str := ["friends", "row", "behind", "one", "other"]
abbrev pAhead : List Str := ["friends", "row"]
theorem scAhead : FnScope nAhead pAhead (defScope sAhead) := ⟨rfl, rfl, rfl, by decide +kernel, rfl, by decide +kernel, by decide +kernel⟩
-- slots: 0:friends 1:row 2:behind* 3:one 4:other
theorem ok_ahead {f : Addr} {fd : FuncData} (B : Blt mg) (CCb : Cal P w K mg base 7 "came_behind" ["friends", "row"] spCameN) (F : Fun K "came_ahead" "came_ahead" sAhead f fd) : FnOk P w K mg base CX0 8 f fd pAhead spAhead := by
  refine fok F scAhead (fun vs H Q E h => ?_) (fun cdv A outer s H vs Q E hr h => ?_)
  · obtain ⟨a, r, ps, row, rfl, _⟩ := h
    rfl
  have hu := hu_of hr
  refine ⟨_, pss_cons (ps_set (i := 2) scAhead.nd rfl (.inr rfl) (pe_cal CCb hr (pa_cons (pv 0) (pa_cons (pv 1) pa_nil))))
    (pss_one (ps_ret (pe_callB (cr_sortedTT hr.units) (by rfl) B.sorted (by decide +kernel) (pa_cons (pe_lc2 (own := [("one", 3), ("other", 4)]) (vs1 := [4]) (g := gName 3) (tt := tYes) (wi1 := iKeysK (tDGet (tVar 2) (tVar 3))) (g1 := gName 4) (tt1 := tYes) (te := tTup (tCons (tVar 3) (tCons (tVar 4) tNil))) rfl scAhead.nd (pi_keysK (pv 2)) (blkOk_by (N := nAhead) (sc := defScope sAhead) (by decide +kernel)) (by decide)
        (fun _ _ _ _ _ => pg_name (i := 3) scAhead.nd rfl (Or.inl rfl)) (fun _ _ _ _ _ => pts_nil)
        (fun _ _ _ _ _ => pi_keysK (pe_dget hu (pv 2) (pv 3) (fun _ _ => rfl)))
        (fun _ _ _ _ _ => pg_name (i := 4) scAhead.nd rfl (Or.inl rfl)) (fun _ _ _ _ _ => pts_nil) (fun _ _ _ _ _ => pe_tup (pa_cons (pv 3) (pa_cons (pv 4) pa_nil)))) pa_nil)))), ?_⟩
  obtain ⟨a, r, ps, row, rfl, ha, hp, irr, hrow, nd, hn, g0, q⟩ := h
  have oo := gone_order irr nd g0
  have gnd : (goneO ps [] row).Nodup := by
    have := nodup_rev oo.nd
    rwa [List.reverse_reverse] at this
  have gm : ∀ y, y ∈ goneO ps [] row ↔ y ∈ row := fun y => by
    rw [← List.mem_reverse]
    exact oo.pm.mem_iff
  have gl : (goneO ps [] row).length = row.length := by
    have := oo.len
    rwa [List.length_reverse] at this
  refine ⟨_, rfl, _, rfl, a, r, ps, row, rfl, ha, hp, irr, hrow, nd, by omega, g0, fun D H1 s1 nD b1 => ?_⟩
  obtain ⟨qs, d1, m1, v1, n1⟩ := b1
  have ndq : (qs.map (·.1)).Nodup := by rw [m1]; exact gnd
  have ql : qs.length = row.length := by rw [← gl, ← m1, List.length_map]
  have il : ∀ qd ∈ qs, qd.2.2.length ≤ 30 := fun qd hq => Nat.le_trans (nd_len qd.2.2 row (v1 qd hq).2.1 fun z hz => (((v1 qd hq).2.2 z).mp hz).right) hn
  have kl : (behK qs).length = qs.length := by unfold behK; rw [List.length_map]
  have nqD : ∀ qd ∈ qs, qd.2.1 ≠ D := fun qd mq zz => by
    have w1' : H1 qd.2.1 = some (.dK (trueK qd.2.2)) := (v1 qd mq).1
    rw [zz, d1] at w1'
    have e := Option.some.inj w1'
    injection e with e
    have : ((Sum.inr qd.1 : Key), V.ref qd.2.1) ∈ trueK qd.2.2 := by
      rw [← e]
      exact List.mem_map.mpr ⟨qd, mq, rfl⟩
    obtain ⟨_, _, h⟩ := List.mem_map.mp this
    have := congrArg Prod.snd h
    cases this
  refine ⟨_, rfl, D, behK qs, rfl, .inl ⟨d1, fun od => ?_⟩⟩
  intro L hL
  have fz : upd H1 D (.frz od (.dK (behK qs))) D = some (.frz od (.dK (behK qs))) := upd_same
  have s2 : Same H (upd H1 D (.frz od (.dK (behK qs)))) := fun b o e => by rw [upd_ne (ne_of_none e nD)]; exact s1 _ _ e
  have b2 : BehRd (upd H1 D (.frz od (.dK (behK qs)))) qs := fun qd hq => .inl ((upd_ne (nqD qd hq)).trans (v1 qd hq).1)
  generalize upd H1 D (.frz od (.dK (behK qs))) = H2 at fz s2 b2 hL
  have nLD : D ≠ L := ne_of_none fz hL
  have hLH : H L = none := s2.free hL
  refine lc2_it (walk_keys (d := D) (o := od) (kvs := behK qs)) (fun i H' => ∃ bs : List B3, Same H H' ∧ H' L = some (.lst (refs bs)) ∧ PairsAt H' bs ∧ H' D = some (.frz od (.dK (behK qs))) ∧ BehRd H' qs ∧ bs.length ≤ 30 * i ∧ bs.map (·.2) = pairsTo qs i) ?_ ?_ ?_ ?_
  · exact ⟨[], fun b o e => by rw [upd_ne (ne_of_none e hLH)]; exact s2 _ _ e, upd_same, (fun _ h => nomatch h), (upd_ne nLD).trans fz, b2.same (same_upd hL), Nat.le_refl _, rfl⟩
  · rintro i H' _ ⟨bs, _, _, _, e, _⟩
    exact e
  · rintro i v H4 H3 hi ⟨bs, s3, l3, p3, f3, b3, c3, e3⟩ ⟨rfl, kk, vv, ekv, rfl⟩
    rw [kl] at hi
    obtain ⟨qd, hq⟩ : ∃ qd, qs[i]? = some qd := ⟨qs[i], List.getElem?_eq_getElem hi⟩
    have mq := List.mem_of_getElem? hq
    unfold behK at ekv
    rw [List.getElem?_map, hq] at ekv
    have ekv' := Option.some.inj ekv
    have ek : kk = Sum.inr qd.1 := (congrArg Prod.fst ekv').symm
    subst ek
    have g4 : DGet H3 D (.str qd.1) (some (.ref qd.2.1)) := .inl ⟨_, .inr qd.1, .inr ⟨od, f3⟩, rfl, (behK_val ndq mq rfl).symm⟩
    refine ⟨rfl, _, rfl, _, rfl, D, _, rfl, g4, qd.2.1, trueK qd.2.2, rfl, ?_⟩
    have lq := il qd mq
    have tl : (trueK qd.2.2).length = qd.2.2.length := by unfold trueK; rw [List.length_map]
    have fin : ∀ (o2 : Obj) (H5 : Hp), Same H H5 → H5 L = some (.lst (refs bs)) → PairsAt H5 bs → H5 D = some (.frz od (.dK (behK qs))) → BehRd H5 qs → H5 qd.2.1 = some (.frz o2 (.dK (trueK qd.2.2))) →
        ∃ W1 : Nat → Nat → Hp → Prop, (∃ m, W1 0 m H5) ∧ ∀ j k H6, W1 j k H6 →
        ((Itk qd.2.1 o2 (trueK qd.2.2)).stop j H6 ∧ ∃ bs : List B3, Same H H6 ∧ H6 L = some (.lst (refs bs)) ∧ PairsAt H6 bs ∧ H6 D = some (.frz od (.dK (behK qs))) ∧ BehRd H6 qs ∧ bs.length ≤ 30 * (i + 1) ∧ bs.map (·.2) = pairsTo qs (i + 1)) ∨ ((Itk qd.2.1 o2 (trueK qd.2.2)).go j H6 ∧ ∃ Nx1 : Hp → Prop, (∀ H', Nx1 H' → ∃ k', k' < k ∧ W1 (j + 1) k' H') ∧ ∀ x H', (Itk qd.2.1 o2 (trueK qd.2.2)).yld j H6 x H' → gName 4 x (wipe [some (.ref a), some (.ref r), some (.ref D), some (.str qd.1), none] [4]) H' fun σ3 H5 => wipe σ3 [4] = wipe [some (.ref a), some (.ref r), some (.ref D), some (.str qd.1), none] [4] ∧ tYes σ3 H5 fun b H6 =>
          if b = true then tTup (tCons (tVar 3) (tCons (tVar 4) tNil)) σ3 H6 fun y H7 => ∃ acc, H7 L = some (.lst acc) ∧ acc.length < sizeLine ∧ Nx1 (upd H7 L (.lst (acc ++ [y]))) else Nx1 H6) := by
      intro o2 H5 s5 l5 p5 f5 b5 z5
      refine lc1_it (walk_keys (d := qd.2.1) (o := o2) (kvs := trueK qd.2.2)) (fun k H' => ∃ bs' : List B3, Same H H' ∧ H' L = some (.lst (refs bs')) ∧ PairsAt H' bs' ∧ H' D = some (.frz od (.dK (behK qs))) ∧ BehRd H' qs ∧ H' qd.2.1 = some (.frz o2 (.dK (trueK qd.2.2))) ∧ bs'.length ≤ 30 * i + k ∧ bs'.map (·.2) = pairsTo qs i ++ (qd.2.2.take k).map fun y => (qd.1, y)) ?_ ?_ ?_ ?_
      · exact ⟨bs, s5, l5, p5, f5, b5, z5, by omega, by rw [e3]; simp⟩
      · rintro k H' _ ⟨bs', _, _, _, _, _, e, _⟩
        exact e
      · rintro k v H7 H6 hk ⟨bs', s6, l6, p6, f6, b6, z6, c6, e6⟩ ⟨rfl, kk, vv, ekv, rfl⟩
        rw [tl] at hk
        obtain ⟨y, hy⟩ : ∃ y, qd.2.2[k]? = some y := ⟨qd.2.2[k], List.getElem?_eq_getElem hk⟩
        unfold trueK at ekv
        rw [List.getElem?_map, hy] at ekv
        have ek : kk = Sum.inr y := (congrArg Prod.fst (Option.some.inj ekv)).symm
        subst ek
        refine ⟨rfl, _, rfl, _, rfl, (by show 2 ≤ sizeLine; decide), fun pt hpt => ?_⟩
        have s7 := same_upd (o := .tup [.str qd.1, .str y]) hpt
        have l7 := s7 _ _ l6
        have key : ∀ {z : Addr} {o : HO}, (∀ xs, o ≠ .lst xs) → upd H6 pt (.tup [.str qd.1, .str y]) z = some o → upd (upd H6 pt (.tup [.str qd.1, .str y])) L (.lst (refs bs' ++ [.ref pt])) z = some o := fun {z o} no hz => (upd_ne (ne_of hz l7 (no _))).trans hz
        refine ⟨_, l7, ?_, bs' ++ [(pt, qd.1, y)], fun b o e => ?_, ?_, ?_, key (fun _ z => nomatch z) (s7 _ _ f6), (b6.same s7).lst l7, key (fun _ z => nomatch z) (s7 _ _ z6), ?_, ?_⟩
        · unfold refs
          rw [List.length_map]
          exact small1000 (by omega)
        · rw [upd_ne (ne_of_none e hLH)]
          exact s7 _ _ (s6 _ _ e)
        · rw [upd_same]
          unfold refs
          rw [List.map_append]
          rfl
        · intro c hc
          rcases List.mem_append.mp hc with z | z
          · exact key (fun _ z => nomatch z) (s7 _ _ (p6 c z))
          · rw [List.mem_singleton.mp z]
            exact key (fun _ z => nomatch z) upd_same
        · rw [List.length_append]
          show bs'.length + 1 ≤ _
          omega
        · rw [List.map_append, e6, List.take_add_one, hy, List.map_append, List.append_assoc]
          rfl
      · rintro H6 ⟨bs', s6, l6, p6, f6, b6, z6, c6, e6⟩
        rw [tl] at c6 e6
        refine ⟨bs', s6, l6, p6, f6, b6, by omega, ?_⟩
        rw [e6, List.take_of_length_le (Nat.le_refl _), pairsTo_succ hq]
    rcases b3 qd mq with z3 | ⟨o2, z3⟩
    · refine .inl ⟨z3, fun o2 => ?_⟩
      have nz : ∀ {z : Addr} {o : HO}, (∀ xs, o ≠ .dK xs) → H3 z = some o → upd H3 qd.2.1 (.frz o2 (.dK (trueK qd.2.2))) z = some o := fun {z o} no hz => (upd_ne (ne_of hz z3 (no _))).trans hz
      exact fin o2 _ (fun b o e => by rw [upd_ne (ne_of_none e (n1 qd mq))]; exact s3 _ _ e) (nz (fun _ z => nomatch z) l3) (fun c hc => nz (fun _ z => nomatch z) (p3 c hc)) (nz (fun _ z => nomatch z) f3) (b3.frz z3) upd_same
    · exact .inr ⟨o2, z3, fin o2 _ s3 l3 p3 f3 b3 z3⟩
  · rintro H3 ⟨bs, s3, l3, p3, f3, b3, c3, e3⟩
    rw [kl] at c3 e3
    refine ⟨L, bs, rfl, .inl (.inl l3), fun b hb => p3 b hb, fun p hp => ?_⟩
    have s4 := same_upd (o := .lst (refs (bs.mergeSort (PySem.W.dataLe false encP)))) hp
    have pmS : (bs.mergeSort (PySem.W.dataLe false encP)).Perm bs := List.mergeSort_perm ..
    refine q p (bs.mergeSort (PySem.W.dataLe false encP)) _ (s3.trans s4) (s3.free hp) upd_same (fun b hb => s4 _ _ (p3 b (pmS.mem_iff.mp hb))) (fun x y => ?_) (by rw [pmS.length_eq, ql] at *; omega)
    rw [(pmS.map (·.2)).mem_iff, e3]
    unfold pairsTo
    rw [List.take_of_length_le (Nat.le_refl _), List.mem_flatMap]
    constructor
    · rintro ⟨qd, hq, hz⟩
      obtain ⟨z, hz, e⟩ := List.mem_map.mp hz
      cases e
      exact ((v1 qd hq).2.2 _).mp hz
    · intro h
      obtain ⟨qd, hq, e⟩ := List.mem_map.mp (show x ∈ qs.map (·.1) by rw [m1]; exact (gm x).mpr h.left)
      subst e
      exact ⟨qd, hq, List.mem_map.mpr ⟨y, ((v1 qd hq).2.2 y).mpr h, rfl⟩⟩
/-! ### next_towards -/
abbrev sNextT : Stmt := topS 38
abbrev nNextT : List Str := ["barred", "behind", "who", "other", "later"]
abbrev pNextT : List Str := ["barred", "behind", "who", "other"]
theorem scNextT : FnScope nNextT pNextT (defScope sNextT) := ⟨rfl, rfl, rfl, by decide +kernel, rfl, by decide +kernel, by decide +kernel⟩
-- slots: 0:barred 1:behind* 2:who 3:other* 4:later
theorem ok_nextT {f : Addr} {fd : FuncData} (B : Blt mg) (F : Fun K "next_towards" "next_towards" sNextT f fd) : FnOk P w K mg base CX0 1 f fd pNextT spNextT := by
  refine fok F scNextT (fun vs H Q E h => ?_) (fun cdv A outer s H vs Q E hr h => ?_)
  · obtain ⟨Ba, Be, ps, row, xs, who, other, rfl, _⟩ := h
    rfl
  have hu := hu_of hr
  refine ⟨_, pss_cons (ps_if (pt_cmpR op_in_seq (pv 3) (pe_dget hu (pv 0) (pv 2) (fun _ _ => rfl)) (by rfl))
      (pss_one (ps_ret (pv 3)))
      pss_nil)
    (pss_one (ps_ret (pe_ix ix_list (pe_lc (own := [("later", 4)]) (g := gName 4) (tt := tB (tDIn (tVar 3) (tDGet (tVar 1) (tVar 4)))) (te := tVar 4) rfl scNextT.nd (pi_list (pe_dget hu (pv 0) (pv 2) (fun _ _ => rfl))) (blkOk_by (N := nNextT) (sc := defScope sNextT) (by decide +kernel)) (fun _ _ _ _ _ => pg_name (i := 4) scNextT.nd rfl (Or.inl rfl)) (fun _ _ _ _ _ => pts_one (pt_cmp (pc_din hu (pv 3) (pe_dget hu (pv 1) (pv 4) (fun _ _ => rfl))))) (fun _ _ _ _ _ => pv 4)) pe_int (fun _ _ => rfl)))), ?_⟩
  obtain ⟨Ba, Be, ps, row, xs, who, other, rfl, hba, hbe, pm, nd, hn, ld, q⟩ := h
  have hw := ld.left
  obtain ⟨kvs, k1, k2, k3⟩ := hba
  obtain ⟨la, k4, k5⟩ := k3 who (by rw [List.take_of_length_le (Nat.le_refl _)]; exact hw)
  have g1 := DGet.k (k := .inr who) k1
  rw [k4] at g1
  obtain ⟨qs, d1, m1, v1⟩ := hbe
  have ndq : (qs.map (·.1)).Nodup := by rw [m1]; exact pm.nodup_iff.mpr nd
  have bl : (barsL ps row who).length ≤ 100 := Nat.le_trans (List.length_filter_le _ _) hn
  refine ⟨_, rfl, _, rfl, _, rfl, Ba, _, rfl, g1, la, _, rfl, .inl (.inl (.inl k5)), rfl, flat_strs _, _, rfl, ?_⟩
  rw [inV_strs]
  refine ite2 (fun c => ?_) (fun c => ?_)
  · have mo : other ∈ barsL ps row who := of_decide_eq_true c
    exact ⟨_, rfl, q other H (Same.refl _) ld.right ((barsL_mem nd hw).mp mo).2 (.inl rfl)⟩
  · have no : other ∉ barsL ps row who := fun z => c (decide_eq_true z)
    refine ⟨_, rfl, _, rfl, Ba, _, rfl, g1, la, rfl, ⟨_, .inl (.inl k5)⟩, fun L hL => ?_⟩
    refine lc_take (walk_list (xs := (barsL ps row who).map V.str)) (fun y => leadsB ps row y other) (by omega) hL (fun H' s => .inl (.inl (s _ _ k5))) ?_ ?_
    · rintro i y v H2 H2' kk k0 hy s2 ⟨rfl, ex⟩ h1 h2
      rw [ix_map hy] at ex
      cases ex
      have my := ((barsL_mem nd hw).mp (List.mem_of_getElem? hy)).1
      obtain ⟨qd, hqd, eqd⟩ : ∃ q ∈ qs, q.1 = y := by
        have : y ∈ qs.map (·.1) := by rw [m1]; exact pm.mem_iff.mpr my
        obtain ⟨q', h1, h2⟩ := List.mem_map.mp this
        exact ⟨q', h1, h2⟩
      obtain ⟨w1, w2, w3⟩ := v1 qd hqd
      have w1' : H qd.2.1 = some (.dK (trueK qd.2.2)) := w1
      have g2 := DGet.k (k := .inr y) (s2 _ _ d1)
      rw [behK_val ndq hqd eqd] at g2
      have g3 := DGet.k (k := .inr other) (s2 _ _ w1')
      rw [trueK_val] at g3
      have el : (if other ∈ qd.2.2 then some (V.bl true) else none : Option V).isSome = leadsB ps row y other := by
        by_cases c : other ∈ qd.2.2
        · rw [if_pos c, leadsB_iff.mpr (eqd ▸ (w3 other).mp c)]
          rfl
        · rw [if_neg c, leadsB_no.mpr fun z => c ((w3 other).mpr (eqd ▸ z))]
          rfl
      refine ⟨rfl, _, rfl, _, rfl, _, rfl, Be, _, rfl, g2, qd.2.1, _, rfl, g3, _, rfl, ?_⟩
      rw [el]
      exact ite2 (fun c => ⟨_, rfl, h1 c _ (Same.refl _)⟩) (fun c => h2 (Bool.eq_false_iff.mpr c) _ (Same.refl _))
    · intro H2 s2 e2
      have ne : (barsL ps row who).filter (fun y => leadsB ps row y other) ≠ [] := fun z => by
        cases ld with
        | one _ hv b => exact no ((barsL_mem nd hw).mpr ⟨hv, b⟩)
        | more _ hv b t =>
          have := (List.mem_filter (p := fun y => leadsB ps row y other)).mpr ⟨(barsL_mem nd hw).mpr ⟨hv, b⟩, leadsB_iff.mpr t⟩
          rw [z] at this
          cases this
      obtain ⟨y, ys, ey⟩ : ∃ y ys, (barsL ps row who).filter (fun y => leadsB ps row y other) = y :: ys := by
        cases e : (barsL ps row who).filter (fun y => leadsB ps row y other) with
        | nil => exact absurd e ne
        | cons y ys => exact ⟨y, ys, rfl⟩
      rw [ey] at e2
      have my := List.mem_filter.mp (show y ∈ (barsL ps row who).filter (fun y => leadsB ps row y other) by rw [ey]; exact List.mem_cons_self)
      obtain ⟨mr, by_⟩ := (barsL_mem nd hw).mp my.1
      exact ⟨L, _, 0, .str y, rfl, rfl, .inl (.inl e2), atI_nat (j := 0) rfl, q y H2 s2 mr by_ (.inr (leadsB_iff.mp my.2))⟩
/-! ### chain_of -/
abbrev sChain : Stmt := topS 39
abbrev nChain : List Str := ["friends", "row", "one", "other", "behind", "known", "barred", "chain", "who", "later"]
abbrev pChain : List Str := ["friends", "row", "one", "other"]
theorem scChain : FnScope nChain pChain (defScope sChain) := ⟨rfl, rfl, rfl, by decide +kernel, rfl, by decide +kernel, by decide +kernel⟩
-- slots: 0:friends 1:row 2:one 3:other 4:behind 5:known 6:barred 7:chain 8:who 9:later
theorem ok_chain {f : Addr} {fd : FuncData} (B : Blt mg) (CBw : Cal P w K mg base 2 "bar_words" ["known", "row", "one", "other"] spBarW) (CBi : Cal P w K mg base 3 "barred_in" ["friends", "row"] spBarredIn) (CBo : Cal P w K mg base 1 "both_ways" ["friends"] spBoth) (CCb : Cal P w K mg base 7 "came_behind" ["friends", "row"] spCameB) (CNt : Cal P w K mg base 1 "next_towards" ["barred", "behind", "who", "other"] spNextT) (F : Fun K "chain_of" "chain_of" sChain f fd) : FnOk P w K mg base CX0 8 f fd pChain spChain := by
  refine fok F scChain (fun vs H Q E h => ?_) (fun cdv A outer s H vs Q E hr h => ?_)
  · obtain ⟨a, r, ps, row, one, other, rfl, _⟩ := h
    rfl
  have hu := hu_of hr
  refine ⟨_, pss_cons (ps_set (i := 4) scChain.nd rfl (.inl rfl) (pe_cal CCb hr (pa_cons (pv 0) (pa_cons (pv 1) pa_nil))))
    (pss_cons (ps_if (PW.pt (pw_or (pt_cmp (pc_dnotin hu (pv 2) (pv 4))) (pw_or1 (pt_cmp (pc_dnotin hu (pv 3) (pe_dget hu (pv 4) (pv 2) (fun _ _ => rfl)))))))
      (pss_one (ps_ret pe_non))
      pss_nil)
    (pss_cons (ps_set (i := 5) scChain.nd rfl (.inl rfl) (pe_cal CBo hr (pa_cons (pv 0) pa_nil)))
    (pss_cons (ps_set (i := 6) scChain.nd rfl (.inl rfl) (pe_cal CBi hr (pa_cons (pv 0) (pa_cons (pv 1) pa_nil))))
    (pss_cons (ps_set (i := 7) scChain.nd rfl (.inl rfl) (pe_lst pa_nil))
    (pss_cons (ps_set (i := 8) scChain.nd rfl (.inl rfl) (pv 2))
    (pss_cons (ps_while PassesOwn.never (pt_cmpR op_ne (pv 8) (pv 3) (nomark _))
      (pss_cons (ps_set (i := 9) scChain.nd rfl (.inl rfl) (pe_cal CNt hr (pa_cons (pv 6) (pa_cons (pv 4) (pa_cons (pv 8) (pa_cons (pv 3) pa_nil))))))
        (pss_cons (ps_expr (pe_bm PySem.F.plainAttrs_list PySem.F.slot_list_append PySem.F.type_list_append mt_append (pv 7) (pa_cons (pe_tup (pa_cons (pv 8) (pa_cons (pe_ix ix_list (pe_cal CBw hr (pa_cons (pv 5) (pa_cons (pv 1) (pa_cons (pv 8) (pa_cons (pv 9) pa_nil))))) pe_int (fun _ _ => rfl)) pa_nil))) pa_nil)))
        (pss_one (ps_set (i := 8) scChain.nd rfl (.inl rfl) (pv 9))))))
    (pss_one (ps_ret (pv 7))))))))), ?_⟩
  obtain ⟨a, r, ps, row, one, other, rfl, ha, hp, irr, hrow, nd, hn, g0, h1, h2, qn, q⟩ := h
  have oo := gone_order irr nd g0
  have gnd : (goneO ps [] row).Nodup := by
    have := nodup_rev oo.nd
    rwa [List.reverse_reverse] at this
  have gpm : (goneO ps [] row).Perm row := (List.reverse_perm _).symm.trans oo.pm
  refine ⟨_, rfl, _, rfl, a, r, ps, row, rfl, ha, hp, irr, hrow, nd, hn, g0, fun D H1 s1 nD b1 => ?_⟩
  have b1' := b1
  obtain ⟨qs, d1, m1, v1⟩ := b1
  obtain ⟨qd, hqd, eqd⟩ : ∃ q ∈ qs, q.1 = one := by
    have : one ∈ qs.map (·.1) := by rw [m1]; exact gpm.mem_iff.mpr h1
    obtain ⟨q', h1, h2⟩ := List.mem_map.mp this
    exact ⟨q', h1, h2⟩
  obtain ⟨w1, w2, w3⟩ := v1 qd hqd
  have w1' : H1 qd.2.1 = some (.dK (trueK qd.2.2)) := w1
  have ndq : (qs.map (·.1)).Nodup := by rw [m1]; exact gnd
  have g1 := DGet.k (k := .inr one) d1
  rw [behK_val ndq hqd eqd] at g1
  have g2 := DGet.k (k := .inr other) w1'
  rw [trueK_val] at g2
  have el : (if other ∈ qd.2.2 then some (V.bl true) else none : Option V).isSome = leadsB ps row one other := by
    by_cases c : other ∈ qd.2.2
    · rw [if_pos c, leadsB_iff.mpr (eqd ▸ (w3 other).mp c)]
      rfl
    · rw [if_neg c, leadsB_no.mpr fun z => c ((w3 other).mpr (eqd ▸ z))]
      rfl
  refine ⟨_, rfl, _, rfl, D, _, rfl, g1, _, rfl, ?_⟩
  refine ⟨_, rfl, _, rfl, _, rfl, D, _, rfl, g1, qd.2.1, _, rfl, g2, _, rfl, ?_⟩
  rw [el]
  by_cases ld : Leads ps row one other
  · rw [leadsB_iff.mpr ld]
    refine ⟨_, rfl, a, ps, rfl, ha.same s1, hp, fun d H2 s2 n2 k2' => ?_⟩
    have s12 := s1.trans s2
    refine ⟨_, rfl, _, rfl, a, r, ps, row, rfl, ha.same s12, hp, hrow.same s12, nd, hn, fun Ba H3 s3 n3 ba3 => ?_⟩
    have s13 := s12.trans s3
    refine ⟨(by show 0 ≤ sizeLine; decide), fun c0 hc0 => ?_⟩
    have s4 := same_upd (o := .lst []) hc0
    have nc0 : H c0 = none := s13.free hc0
    have s23 := s2.trans (s3.trans s4)
    have s14 := s13.trans s4
    have k4 := k2'.same (s3.trans s4)
    have ba4 := ba3.same s4
    have b4 := b1'.same s23
    have hrow4 := hrow.same s14
    refine ⟨_, rfl, ?_⟩
    have s04 : Same H3 (upd H3 c0 (.lst [])) := s4
    have hr3 := hrow.same s13
    have k3 := k2'.same s3
    have b3 := b1'.same (s2.trans s3)
    have ixO : ∀ {u v : Str}, Leads ps row u v → (goneO ps [] row).reverse.idxOf u < (goneO ps [] row).reverse.idxOf v := fun h => h.idx irr oo
    generalize (goneO ps [] row).reverse = ord at ixO oo
    refine while_by (fun σ H' => ∃ (who : Str) (bs : List B3) (y9 : Option V), σ = [some (.ref a), some (.ref r), some (.str one), some (.str other), some (.ref D), some (.ref d), some (.ref Ba), some (.ref c0), some (.str who), y9] ∧ Same H3 H' ∧ H' c0 = some (.lst (refs bs)) ∧ PairsAt H' bs ∧ ChainTo ps row one who bs ∧ who ∈ row ∧ (who = other ∨ Leads ps row who other) ∧ ∀ b ∈ bs, ord.idxOf b.2.1 < ord.idxOf who)
      (fun (σ : L2.St) (_ : Hp) => match σ[8]? with | some (some (V.str x)) => row.length - ord.idxOf x | _ => 0) ?_ ?_ ?_
    · exact ⟨one, [], _, rfl, s4, upd_same, (fun _ h => nomatch h), ChainTo.nil, h1, .inr ld, (fun _ h => nomatch h)⟩
    · rintro σ H5 ⟨who, bs, y9, rfl, s5, c5, p5, ch, mw, lw, ix5⟩
      have nw : ∀ x : Str, (∀ b ∈ bs, ord.idxOf b.2.1 < ord.idxOf x) → x ∉ bs.map (·.2.1) := fun x h z => by
        obtain ⟨b, hb, e⟩ := List.mem_map.mp z
        have := h b hb
        rw [e] at this
        omega
      have bl : bs.length ≤ 100 := by
        have := nd_len (bs.map (·.2.1)) row ch.2.2.1 fun x hx => by
          obtain ⟨b, hb, rfl⟩ := List.mem_map.mp hx
          exact ch.2.1 b hb
        rw [List.length_map] at this
        omega
      refine ⟨_, rfl, _, rfl, rfl, _, rfl, ?_⟩
      by_cases e : who = other
      · subst e
        rw [decide_eq_true rfl]
        have bne : bs ≠ [] := fun z => by
          subst z
          have := Option.some.inj ch.1
          exact ld.ne irr oo this.symm
        refine ⟨_, rfl, q ld c0 bs H5 (s13.trans s5) nc0 c5 p5 bne bl ch (nw _ ix5)⟩
      · rw [decide_eq_false (fun z => e (V.str.inj z))]
        have lw := lw.resolve_left e
        refine ⟨_, rfl, _, rfl, _, rfl, _, rfl, Ba, D, ps, row, _, who, other, rfl, ba3.same s5, b3.same s5, gpm, nd, hn, lw, fun later H6 s6 ml bw ll => ?_⟩
        have s36 := s5.trans s6
        obtain ⟨iw, hiw⟩ := List.mem_iff_getElem?.mp mw
        obtain ⟨jl, hjl⟩ := List.mem_iff_getElem?.mp ml
        have c6 := s6 _ _ c5
        refine ⟨_, rfl, .inl ⟨rfl, _, .inl (.inl c6)⟩, _, rfl, _, rfl, _, rfl, _, rfl, _, rfl, d, r, ps, row, who, later, iw, jl, rfl, k3.same s36, hr3.same s36, hn, nd, hiw, hjl, fun lw' H7 s7 n7 e7 => ?_⟩
        have ew : wordsOf ps row who later iw jl = wordsAt ps row who later := by
          unfold wordsAt
          rw [idx_at nd hiw, idx_at nd hjl]
        rw [ew] at e7
        have wne := (bars_words nd mw ml).mp bw
        obtain ⟨w0, ws, hws⟩ : ∃ w0 ws, wordsAt ps row who later = w0 :: ws := by
          cases e : wordsAt ps row who later with
          | nil => exact absurd e wne
          | cons y ys => exact ⟨y, ys, rfl⟩
        have m0 : w0 ∈ wordsAt ps row who later := by rw [hws]; exact List.mem_cons_self
        rw [hws] at e7
        refine ⟨lw', _, 0, .str w0, rfl, rfl, .inl (.inl e7), atI_nat (j := 0) rfl, (by show 2 ≤ sizeLine; decide), fun t ht => ?_⟩
        have s8 := same_upd (o := .tup [.str who, .str w0]) ht
        have c8 := s8 _ _ (s7 _ _ c6)
        refine ⟨c0, _, _, rfl, rfl, c8, ?_, ?_⟩
        · unfold refs
          rw [List.length_map]
          exact small1000 (by omega)
        have s68 := (s6.trans s7).trans s8
        have ix6 : ord.idxOf who < ord.idxOf later := ixO (.one mw ml bw)
        refine ⟨_, rfl, ⟨later, bs ++ [(t, who, w0)], _, rfl, fun b o z => ?_, ?_, ?_, ch.step mw (nw _ ix5) m0, ml, ll, ?_⟩, ?_⟩
        · rw [upd_ne (ne_of_none z hc0)]
          exact s68 _ _ (s5 _ _ z)
        · rw [upd_same]
          unfold refs
          rw [List.map_append]
          rfl
        · intro b hb
          have key : ∀ {z : Addr} {u : List V}, upd H7 t (.tup [.str who, .str w0]) z = some (.tup u) → upd (upd H7 t (.tup [.str who, .str w0])) c0 (.lst (refs bs ++ [.ref t])) z = some (.tup u) := fun {z u} hz => (upd_ne (ne_of hz c8 (fun z => nomatch z))).trans hz
          rcases List.mem_append.mp hb with z | z
          · exact key (s68 _ _ (p5 b z))
          · rw [List.mem_singleton.mp z]
            exact key upd_same
        · intro b hb
          rcases List.mem_append.mp hb with z | z
          · have := ix5 b z
            omega
          · rw [List.mem_singleton.mp z]
            exact ix6
        · have := List.idxOf_lt_length_iff.mpr (oo.pm.mem_iff.mpr ml)
          have := oo.len
          show row.length - ord.idxOf later < row.length - ord.idxOf who
          omega
    · rintro σ H5 Q1 Q2 hQ ⟨x, hx, y, hy, sc, k, hk, z⟩
      exact ⟨x, hx, y, hy, sc, k, hk, hQ _ _ z⟩
  · rw [leadsB_no.mpr ld]
    exact qn ld _ s1
/-! ### bits_of -/
abbrev sBitsOf : Stmt := topS 23
abbrev nBitsOf : List Str := ["row", "place", "who"]
abbrev pBitsOf : List Str := ["row"]
theorem scBitsOf : FnScope nBitsOf pBitsOf (defScope sBitsOf) := ⟨rfl, rfl, rfl, by decide +kernel, rfl, by decide +kernel, by decide +kernel⟩
-- slots: 0:row 1:place 2:who
theorem ok_bitsOf {f : Addr} {fd : FuncData} (B : Blt mg)  (F : Fun K "bits_of" "bits_of" sBitsOf f fd) : FnOk P w K mg base CX0 1 f fd pBitsOf spBitsOf := by
  refine fok F scBitsOf (fun vs H Q E h => ?_) (fun cdv A outer s H vs Q E hr h => ?_)
  · obtain ⟨r, row, rfl, _⟩ := h
    rfl
  have hu := hu_of hr
  refine ⟨_, pss_one (ps_ret (pe_dc (own := [("place", 1), ("who", 2)]) (g := gTup K 2 (gCons (gName 1) (gCons (gName 2) gNil))) (tt := tYes) (tk := tVar 2) (tv := tOp (rI CPow fun i j => .int (i * 2 ^ j.toNat)) (tC (.int 1)) (tVar 1)) rfl scBitsOf.nd (pi_enum (by rfl) B.enumerate (pa_cons (pe_callB cr_sortedR (by rfl) B.sorted (by decide +kernel) (pa_cons (pv 0) pa_nil)) pa_nil)) (blkOk_by (N := nBitsOf) (sc := defScope sBitsOf) (by decide +kernel)) (fun _ _ _ _ _ => pg_tup rfl (pgs_cons (pg_name (i := 1) scBitsOf.nd rfl (Or.inl rfl)) (pgs_cons (pg_name (i := 2) scBitsOf.nd rfl (Or.inl rfl)) pgs_nil))) (fun _ _ _ _ _ => pts_nil) (fun _ _ _ _ _ => pv 2) (fun _ _ _ _ _ => pe_op op_shl pe_int (pv 1)))), ?_⟩
  obtain ⟨r, row, rfl, hrow, nd, hn, q⟩ := h
  refine ⟨_, rfl, r, row, rfl, hrow, by omega, fun ys p H1 s1 np pm so e1 => ?_⟩
  refine ⟨p, _, rfl, .inl (.inl e1), fun D hD => ?_⟩
  have ndy : ys.Nodup := pm.nodup_iff.mpr nd
  have ly : ys.length ≤ 40 := by rw [pm.length_eq]; exact hn
  refine dc_it (walk_enum (xs := ys.map V.str)) (fun i H' => Same H1 H' ∧ H' D = some (.dK ((bitsK ys).take i))) ?_ ?_ ?_ ?_
  · exact ⟨same_upd hD, upd_same⟩
  · rintro i H' _ ⟨s2, _⟩
    exact .inl (.inl (s2 _ _ e1))
  · rintro i v H2 H3 hi ⟨s2, d2⟩ ⟨T, x, y, rfl, nT, rfl, ex, ey⟩
    cases ex
    obtain ⟨z, hz, rfl⟩ := at_map ey
    rw [List.length_map] at hi
    have sT := same_upd (o := .tup [.int (i : Nat), .str z]) nT
    refine ⟨T, _, rfl, .inl (.inl upd_same), rfl, _, _, rfl, _, _, rfl, rfl, rfl, ?_⟩
    have ix := idx_at ndy hz
    refine ⟨_, rfl, _, rfl, _, _, rfl, rfl, ⟨by omega, by omega, by decide⟩, (bitsK ys).take i, .inr z, rfl, sT _ _ d2, ?_, fun b o' e => ?_, ?_⟩
    · rw [List.length_take]
      exact small1000 (by omega)
    · rw [upd_ne (ne_of_none e hD)]
      exact sT _ _ (s2 _ _ e)
    · rw [upd_same, List.take_add_one]
      have hb : (bitsK ys)[i]? = some (Sum.inr z, V.int (bitN ys z : Nat)) := by
        unfold bitsK
        rw [List.getElem?_map, hz]
        rfl
      rw [hb, putK_new]
      · congr 2
        show _ ++ [_] = _ ++ [_]
        congr 3
        unfold bitN
        rw [ix]
        simp
      · refine valV_off fun kv hkv e => ?_
        unfold bitsK at hkv
        rw [← List.map_take] at hkv
        obtain ⟨u, hu1, rfl⟩ := List.mem_map.mp hkv
        have eu : u = z := Sum.inr.inj e
        subst eu
        obtain ⟨j, hj⟩ := List.getElem?_of_mem hu1
        rw [List.getElem?_take] at hj
        split at hj
        · have := idx_at ndy hj
          omega
        · cases hj
  · rintro H2 ⟨s2, d2⟩
    rw [List.length_map, List.take_of_length_le (by unfold bitsK; rw [List.length_map]; exact Nat.le_refl _)] at d2
    exact q D ys H2 (s1.trans s2) (s1.free hD) pm so d2
/-! ### barrers_of -/
abbrev sBarr : Stmt := topS 24
abbrev nBarr : List Str := ["friends", "row", "bits", "barred", "who", "one"]
abbrev pBarr : List Str := ["friends", "row", "bits"]
theorem scBarr : FnScope nBarr pBarr (defScope sBarr) := ⟨rfl, rfl, rfl, by decide +kernel, rfl, by decide +kernel, by decide +kernel⟩
-- slots: 0:friends 1:row* 2:bits* 3:barred* 4:who 5:one
theorem ok_barr {f : Addr} {fd : FuncData} (B : Blt mg) (CBi : Cal P w K mg base 3 "barred_in" ["friends", "row"] spBarredIn) (F : Fun K "barrers_of" "barrers_of" sBarr f fd) : FnOk P w K mg base CX0 4 f fd pBarr spBarr := by
  refine fok F scBarr (fun vs H Q E h => ?_) (fun cdv A outer s H vs Q E hr h => ?_)
  · obtain ⟨a, r, D, ps, row, ks, rfl, _⟩ := h
    rfl
  have hu := hu_of hr
  refine ⟨_, pss_cons (ps_set (i := 3) scBarr.nd rfl (.inr rfl) (pe_cal CBi hr (pa_cons (pv 0) (pa_cons (pv 1) pa_nil))))
    (pss_one (ps_ret (pe_dc (own := [("who", 4)]) (g := gName 4) (tt := tYes) (tk := tVar 4) (tv := tCB (rSum K) (tCons (tLc (iRow (tVar 1)) (gName 5) (tTest (tOp (rIn K false) (tVar 4) (tDGet (tVar 3) (tVar 5)))) (tDGet (tVar 2) (tVar 5)) [5]) tNil)) rfl scBarr.nd (pi_row (pv 1)) (blkOk_by (N := nBarr) (sc := defScope sBarr) (by decide +kernel)) (fun _ _ _ _ _ => pg_name (i := 4) scBarr.nd rfl (Or.inr rfl)) (fun _ _ _ _ _ => pts_nil) (fun _ _ _ _ _ => pv 4) (fun _ _ _ _ _ => pe_callB (cr_sum rfl) (by rfl) B.sum (by decide +kernel) (pa_cons (pe_lc (own := [("one", 5)]) (g := gName 5) (tt := tTest (tOp (rIn K false) (tVar 4) (tDGet (tVar 3) (tVar 5)))) (te := tDGet (tVar 2) (tVar 5)) rfl scBarr.nd (pi_row (pv 1)) (blkOk_by (own := [("one", 5)]) (by rfl)) (fun _ _ _ _ _ => pg_name (i := 5) scBarr.nd rfl (Or.inl rfl)) (fun _ _ _ _ _ => pts_one (pt_cmpR op_in_seq (pv 4) (pe_dget hu (pv 3) (pv 5) (fun _ _ => rfl)) (by rfl))) (fun _ _ _ _ _ => pe_dget hu (pv 2) (pv 5) (fun _ _ => rfl))) pa_nil))))), ?_⟩
  obtain ⟨a, r, D, ps, row, ks, rfl, ha, hp, hrow, nd, hn, hD0, pm, q⟩ := h
  refine ⟨_, rfl, _, rfl, a, r, ps, row, rfl, ha, hp, hrow, nd, by omega, fun E H1 s1 nE bE => ?_⟩
  have row1 := hrow.same s1
  have D1 := s1 _ _ hD0
  refine ⟨.ref r, rfl, r, row, rfl, row1, fun J G wk hG D2 hD2 => ?_⟩
  have ndk : ks.Nodup := pm.nodup_iff.mpr nd
  refine dc_it wk (fun i H' => Same H1 H' ∧ ∃ kvs, H' D2 = some (.dK kvs) ∧ kvs.length ≤ i ∧ ∀ x ∈ row.take i, valV kvs (.inr x) = some (.int (mkN ks (fun y => barB ps row y x) : Nat))) ?_ ?_ ?_ ?_
  · exact ⟨same_upd hD2, [], upd_same, Nat.le_refl _, fun x hx => by rw [List.take_zero] at hx; cases hx⟩
  · rintro i H' _ ⟨s2, _⟩
    exact hG H' (row1.kept s2)
  · rintro i v H2 H3 hi ⟨s2, kvs, d2, c2, v2⟩ ⟨rfl, ex⟩
    obtain ⟨x, hx, rfl⟩ := at_map ex
    rw [List.length_map] at hi
    have row2 := row1.same s2
    refine ⟨rfl, _, rfl, .ref r, rfl, r, row, rfl, row2, fun J2 G2 wk2 hG2 L hL => ?_⟩
    obtain ⟨kE, e1, _, e3⟩ := bE.same s2
    refine lc_pick wk2 row (fun y => V.int (bitN ks y : Nat)) (fun y => decide (x ∈ barsL ps row y)) (List.length_map _).symm (by rw [List.length_map]; omega) hL (fun H' s => hG2 H' (row2.kept s)) ?_ ?_
    · rintro j y w4 H4 H4' k k0 hy s4 ⟨rfl, ev⟩ k1 k2
      rw [ix_map hy] at ev
      cases ev
      have my : y ∈ row.take row.length := by rw [List.take_of_length_le (Nat.le_refl _)]; exact List.mem_of_getElem? hy
      obtain ⟨la, f1, f2⟩ := e3 y my
      have g1 := DGet.k (k := .inr y) (s4 _ _ e1)
      rw [f1] at g1
      have g2 := DGet.k (k := .inr y) (s4 _ _ (s2 _ _ D1))
      rw [bits_get (pm.mem_iff.mpr (List.mem_of_getElem? hy))] at g2
      refine ⟨rfl, _, rfl, _, rfl, _, rfl, E, _, rfl, g1, la, _, rfl, .inl (.inl (.inl (s4 _ _ f2))), rfl, flat_strs _, _, rfl, ?_⟩
      rw [inV_strs]
      exact ite2 (fun c => ⟨_, rfl, _, rfl, D, _, rfl, g2, k1 c _ (Same.refl _)⟩) (fun c => k2 (Bool.eq_false_iff.mpr c) _ (Same.refl _))
    intro H4 s4 d4
    have d4' : H4 L = some (.lst ((((row.filter fun y => decide (x ∈ barsL ps row y)).map fun y => ((bitN ks y : Nat) : Int))).map V.int)) := by
      rw [d4, List.map_map]
      rfl
    refine ⟨L, _, rfl, .inl (.inl d4'), ?_⟩
    rw [sum_cast, barrers_sum pm nd]
    have tk : row.take (i + 1) = row.take i ++ [x] := by
      rw [List.take_add_one, hx]
      rfl
    refine ⟨kvs, .inr x, rfl, s4 _ _ d2, small1000 (by omega), fun b o' e => ?_, _, upd_same, ?_, fun z hz => ?_⟩
    · rw [upd_ne (ne_of_none e hD2)]
      exact s4 _ _ (s2 _ _ e)
    · have := putK_lenK (kvs := kvs) (k := .inr x) (v := V.int (mkN ks (fun y => barB ps row y x) : Nat))
      omega
    · rw [valV_put]
      by_cases c : z = x
      · subst c
        rw [if_pos rfl]
      · rw [if_neg (fun e => c (Sum.inr.inj e))]
        rw [tk] at hz
        rcases List.mem_append.mp hz with u | u
        · exact v2 z u
        · exact absurd (List.mem_singleton.mp u) c
  · rintro H2 ⟨s2, kvs, d2, c2, v2⟩
    rw [List.length_map] at c2 v2
    rw [List.take_of_length_le (Nat.le_refl _)] at v2
    exact q D2 H2 (s1.trans s2) (s1.free hD2) ⟨kvs, d2, by omega, fun x hx => v2 x (pm.mem_iff.mp hx)⟩
/-! ### next_ones -/
abbrev sNextO : Stmt := topS 25
abbrev nNextO : List Str := ["bits", "barrers", "bunch", "who"]
abbrev pNextO : List Str := ["bits", "barrers", "bunch"]
theorem scNextO : FnScope nNextO pNextO (defScope sNextO) := ⟨rfl, rfl, rfl, by decide +kernel, rfl, by decide +kernel, by decide +kernel⟩
-- slots: 0:bits* 1:barrers* 2:bunch* 3:who
theorem ok_nextO {f : Addr} {fd : FuncData} (B : Blt mg)  (F : Fun K "next_ones" "next_ones" sNextO f fd) : FnOk P w K mg base CX0 1 f fd pNextO spNextO := by
  refine fok F scNextO (fun vs H Q E h => ?_) (fun cdv A outer s H vs Q E hr h => ?_)
  · obtain ⟨D, E, n, ks, bar, rfl, _⟩ := h
    rfl
  have hu := hu_of hr
  refine ⟨_, pss_one (ps_ret (pe_lock (pe_lc (own := [("who", 3)]) (g := gName 3) (tt := tAnd (tNot (tTr K (tOp (rI0 fun i j => .int (Builtin.bitAnd i j)) (tDGet (tVar 0) (tVar 3)) (tVar 2)))) (tTest (tOp rEq (tOp (rI0 fun i j => .int (Builtin.bitAnd i j)) (tDGet (tVar 1) (tVar 3)) (tVar 2)) (tDGet (tVar 1) (tVar 3))))) (te := tVar 3) rfl scNextO.nd (pi_keys (pv 0)) (blkOk_by (N := nNextO) (sc := defScope sNextO) (by decide +kernel)) (fun _ _ _ _ _ => pg_name (i := 3) scNextO.nd rfl (Or.inl rfl)) (fun _ _ _ _ _ => pts_one (PW.pt (pw_and (pt_not (pt_tr (pe_op op_and (pe_dget hu (pv 0) (pv 3) (fun _ _ => rfl)) (pv 2)))) (pw_and1 (pt_cmpR op_eq (pe_op op_and (pe_dget hu (pv 1) (pv 3) (fun _ _ => rfl)) (pv 2)) (pe_dget hu (pv 1) (pv 3) (fun _ _ => rfl)) (nomark _)))))) (fun _ _ _ _ _ => pv 3)))), ?_⟩
  obtain ⟨D, E, n, ks, bar, rfl, hD, hE, nd, hn, hlt, q⟩ := h
  refine ⟨D, _, hD, trivial, fun od => ?_⟩
  refine ⟨.ref D, rfl, D, od, rfl, .inl ⟨_, upd_same, fun L hL => ?_⟩⟩
  obtain ⟨kE, e1, _, e3⟩ := hE
  have rdE : Rd (upd H D (.frz od (.dK (bitsK ks)))) E (.dK kE) := by
    by_cases c : E = D
    · subst c
      rw [hD] at e1
      cases e1
      exact .inr ⟨od, upd_same⟩
    · exact .inl ((upd_ne c).trans e1)
  have wk := walk_keys (d := D) (o := od) (kvs := bitsK ks)
  rw [show (bitsK ks).length = ks.length by unfold bitsK; rw [List.length_map]] at wk
  refine lc_pick wk ks V.str (fun x => !prN ks n x && ks.all fun y => !bar y x || prN ks n y) rfl (by omega) hL (fun H' s => s _ _ upd_same) ?_ ?_
  · rintro k x v H3 H4 kk k0 hx s3 ⟨rfl, key, vv, ek, rfl⟩ k1 k2
    have mx := List.mem_of_getElem? hx
    unfold bitsK at ek
    rw [List.getElem?_map, hx] at ek
    cases ek
    have gD : DGet H4 D (.str x) (some (.int (bitN ks x : Nat))) := .inl ⟨_, .inr x, .inr ⟨od, s3 _ _ upd_same⟩, rfl, (bits_get mx).symm⟩
    have gE : DGet H4 E (.str x) (some (.int (mkN ks (fun y => bar y x) : Nat))) := .inl ⟨_, .inr x, rdE.elim (fun z => .inl (s3 _ _ z)) (fun ⟨o, z⟩ => .inr ⟨o, s3 _ _ z⟩), rfl, (e3 x mx).symm⟩
    have en : mkN ks (prN ks n) = n := mkN_pr nd hlt
    have b1 : (Builtin.bitAnd ((bitN ks x : Nat) : Int) ((n : Nat) : Int) != 0) = prN ks n x := by
      rw [band_nat]
      have h := bit_and (p := prN ks n) nd mx
      rw [en] at h
      cases e : prN ks n x with
      | true =>
        rw [e] at h
        have : ¬ (bitN ks x &&& n = 0) := fun z => nomatch h.mp z
        simp
        omega
      | false =>
        rw [h.mpr e]
        rfl
    have b2 : decide (V.int (Builtin.bitAnd ((mkN ks (fun y => bar y x) : Nat) : Int) ((n : Nat) : Int)) = V.int ((mkN ks (fun y => bar y x) : Nat) : Int)) = ks.all fun y => !bar y x || prN ks n y := by
      rw [band_nat]
      have h := sub_and (ks := ks) (p := prN ks n) (q := fun y => bar y x)
      rw [en] at h
      rw [Bool.eq_iff_iff, decide_eq_true_eq, List.all_eq_true]
      constructor
      · intro z y hy
        have z1 : (mkN ks fun y => bar y x) &&& n = mkN ks fun y => bar y x := by injection z; omega
        cases e : bar y x with
        | true => rw [h.mp z1 y hy e]; rfl
        | false => rfl
      · intro z
        rw [h.mpr fun y hy e => ?_]
        have := z y hy
        rw [e] at this
        simpa using this
    refine ⟨rfl, _, rfl, _, rfl, D, _, rfl, gD, _, rfl, _, _, rfl, rfl, _, rfl, ?_⟩
    rw [b1]
    show if (!prN ks n x) = true then _ else _
    refine ite2 (fun c => ?_) (fun c => ?_)
    · refine ⟨_, rfl, _, rfl, E, _, rfl, gE, _, rfl, _, _, rfl, rfl, _, rfl, _, rfl, E, _, rfl, gE, rfl, _, rfl, ?_⟩
      rw [b2]
      exact ite2 (fun c2 => ⟨_, rfl, k1 (by rw [c, c2]; rfl) _ (Same.refl _)⟩) (fun c2 => k2 (by rw [c, Bool.eq_false_iff.mpr c2]; rfl) _ (Same.refl _))
    · exact k2 (by rw [Bool.eq_false_iff.mpr c]; rfl) _ (Same.refl _)
  intro H3 s3 d3
  have nLD : L ≠ D := fun z => by
    rw [z] at hL
    exact nomatch (show some _ = none from (upd_same (H := H) (a := D) (o := .frz od (.dK (bitsK ks)))).symm.trans hL)
  have nL : H L = none := (upd_ne nLD).symm.trans hL
  exact ⟨s3 _ _ upd_same, q L _ (same_unlock hD s3) nL ((upd_ne nLD).trans d3)⟩
/-! ### Count.ways_by_next -/
abbrev sWB : Stmt := clsFn (topS 27) 1
abbrev nWB : List Str := ["self", "bunch", "who"]
abbrev pWB : List Str := ["self", "bunch"]
theorem scWB : FnScope nWB pWB (defScope sWB) := ⟨rfl, rfl, rfl, by decide +kernel, rfl, by decide +kernel, by decide +kernel⟩
-- slots: 0:self* 1:bunch* 2:who
theorem ok_wB {C f : Addr} {fd : FuncData} (T : TxtC K C) (CNo : Cal P w K mg base 1 "next_ones" ["bits", "barrers", "bunch"] spNextO) (F : Fun K "ways_by_next" "Count.ways_by_next" sWB f fd) : FnOk P w K mg base CX0 2 f fd pWB (spWB C) := by
  refine fok F scWB (fun vs H Q E h => ?_) (fun cdv A outer s H vs Q E hr h => ?_)
  · obtain ⟨p, D, E, W, n, ks, bar, kvs, g, rfl, _⟩ := h
    rfl
  have hu := hu_of hr
  refine ⟨_, pss_one (ps_ret (pe_lc (own := [("who", 2)]) (g := gName 2) (tt := tYes) (te := tTupF (tCons (tVar 2) (tCons (tDGet (tFld K (tVar 0) "ways") (tOp (rI0 fun i j => .int (i + j)) (tVar 1) (tDGet (tFld K (tVar 0) "bits") (tVar 2)))) tNil))) rfl scWB.nd (pi_list (pe_cal CNo hr (pa_cons (pe_fld (pv 0) rfl) (pa_cons (pe_fld (pv 0) rfl) (pa_cons (pv 1) pa_nil))))) (blkOk_by (N := nWB) (sc := defScope sWB) (by decide +kernel)) (fun _ _ _ _ _ => pg_name (i := 2) scWB.nd rfl (Or.inl rfl)) (fun _ _ _ _ _ => pts_nil) (fun _ _ _ _ _ => pe_tupF (pa_cons (pv 2) (pa_cons (pe_dget hu (pe_fld (pv 0) rfl) (pe_op op_add (pv 1) (pe_dget hu (pe_fld (pv 0) rfl) (pv 2) (fun _ _ => rfl))) (fun _ _ => rfl)) pa_nil))))), ?_⟩
  obtain ⟨p, D, E, W, n, ks, bar, kvs, g, rfl, cI, nd, hn, hlt, hg, q⟩ := h
  obtain ⟨⟨dx, hp⟩, hD, hE, hW⟩ := id cI
  refine ⟨_, rfl, p, C, dx, _, _, rfl, hp, T.cl, T.n1, fldsC_bits _ _ _, _, rfl, p, C, dx, _, _, rfl, hp, T.cl, T.n2, fldsC_barrers _ _ _, _, rfl, D, E, n, ks, bar, rfl, hD, hE, nd, hn, hlt, fun l H1 s1 nl hl => ?_⟩
  refine ⟨l, rfl, ⟨_, .inl (.inl hl)⟩, fun L hL => ?_⟩
  refine lc_it (walk_list (xs := (nxtL ks bar (prN ks n)).map V.str)) (fun i H' => Same H1 H' ∧ ∃ ts : List BN, H' L = some (.lst (refsB ts)) ∧ (∀ q ∈ ts, TupAt H' q.1 [.str q.2, .int (g q.2 : Nat)]) ∧ ts.map (·.2) = (nxtL ks bar (prN ks n)).take i) ?_ ?_ ?_ ?_
  · exact ⟨same_upd hL, [], upd_same, fun _ h => (nomatch h), rfl⟩
  · rintro i H' _ ⟨s2, _⟩
    exact .inl (.inl (s2 _ _ hl))
  · rintro i v H2 H3 hi ⟨s2, ts, l2, t2, m2⟩ ⟨rfl, ex⟩
    obtain ⟨x, hx, rfl⟩ := at_map ex
    rw [List.length_map] at hi
    have s12 := s1.trans s2
    have mx := List.mem_of_getElem? hx
    have mk := (nxtL_mem.mp mx).1
    have gD := DGet.k (k := .inr x) (s12 _ _ hD)
    rw [bits_get mk] at gD
    have gW := DGet.k (k := .inl ((n + bitN ks x : Nat) : Int)) (s12 _ _ hW)
    rw [hg x mx] at gW
    refine ⟨rfl, _, rfl, _, rfl, p, C, dx, _, _, rfl, s12 _ _ hp, T.cl, T.n3, fldsC_ways _ _ _, _, rfl, _, rfl, p, C, dx, _, _, rfl, s12 _ _ hp, T.cl, T.n1, fldsC_bits _ _ _, _, rfl, D, _, rfl, gD, _, _, rfl, rfl, W, _, rfl, gW, (by show 2 ≤ sizeLine; decide), fun tq H3 s3 n3 e3 => ?_⟩
    have nlen := nxtL_len (ks := ks) (bar := bar) (p := prN ks n)
    have lts : ts.length = i := by
      have := congrArg List.length m2
      rw [List.length_map, List.length_take] at this
      omega
    have nq : ∀ q ∈ ts ++ [((tq, x) : BN)], q.1 ≠ L := fun q hq e => by
      rcases List.mem_append.mp hq with u | u
      · obtain ⟨o, _, z⟩ := t2 q u
        rw [e, l2] at z
        cases z
      · rw [List.mem_singleton.mp u] at e
        have e' : tq = L := e
        rw [e', l2] at n3
        cases n3
    refine ⟨_, s3 _ _ l2, ?_, fun b o' z => ?_, ts ++ [(tq, x)], ?_, fun q hq => ?_, ?_⟩
    · unfold refsB
      rw [List.length_map, lts]
      exact small1000 (by omega)
    · rw [upd_ne (ne_of_none z hL)]
      exact s3 _ _ (s2 _ _ z)
    · rw [upd_same]
      unfold refsB
      rw [List.map_append]
      rfl
    · have base : TupAt H3 q.1 [.str q.2, .int (g q.2 : Nat)] := by
        rcases List.mem_append.mp hq with u | u
        · exact (t2 q u).same s3
        · rw [List.mem_singleton.mp u]
          exact e3
      obtain ⟨o, h1, h2⟩ := base
      exact ⟨o, h1, (upd_ne (nq q hq)).trans h2⟩
    · rw [List.map_append, m2, List.take_add_one, hx]
      rfl
  · rintro H2 ⟨s2, ts, l2, t2, m2⟩
    rw [List.length_map, List.take_of_length_le (Nat.le_refl _)] at m2
    exact q L ts H2 (s1.trans s2) (s1.free hL) l2 t2 m2
/-! ### Count.__init__ -/
abbrev sCI : Stmt := clsFn (topS 27) 0
abbrev nCI : List Str := ["self", "friends", "row", "who", "sizes", "bunches", "bunch", "many"]
abbrev pCI : List Str := ["self", "friends", "row"]
theorem scCI : FnScope nCI pCI (defScope sCI) := ⟨rfl, rfl, rfl, by decide +kernel, rfl, by decide +kernel, by decide +kernel⟩
-- slots: 0:self* 1:friends 2:row 3:who 4:sizes 5:bunches 6:bunch 7:many
theorem ok_cI {C f : Addr} {fd : FuncData} (B : Blt mg) (T : TxtC K C) (CBarr : Cal P w K mg base 4 "barrers_of" ["friends", "row", "bits"] spBarr) (CBitsOf : Cal P w K mg base 1 "bits_of" ["row"] spBitsOf) (CBunch : Cal P w K mg base 2 "bunches_by_size" ["bits", "barrers"] spBunch) (CSo : Cal P w K mg base 6 "some_order" ["friends", "row"] spSomeO) (CWB : CalM P w K mg base 2 C "ways_by_next" ["self", "bunch"] (spWB C)) (F : Fun K "__init__" "Count.__init__" sCI f fd) : FnOk P w K mg base CX0 7 f fd pCI (spCI C) := by
  refine fok F scCI (fun vs H Q E h => ?_) (fun cdv A outer s H vs Q E hr h => ?_)
  · obtain ⟨p, a, r, dx, ps, row, rfl, _⟩ := h
    rfl
  have hu := hu_of hr
  refine ⟨_, pss_cons (ps_expr (pe_cal CSo hr (pa_cons (pv 1) (pa_cons (pv 2) pa_nil))))
    (pss_cons (ps_fld (pv 0) (pe_cal CBitsOf hr (pa_cons (pv 2) pa_nil)) rfl)
    (pss_cons (ps_fld (pv 0) (pe_cal CBarr hr (pa_cons (pv 1) (pa_cons (pv 2) (pa_cons (pe_fld (pv 0) rfl) pa_nil)))) rfl)
    (pss_cons (ps_fld (pv 0) (pe_disp (pps_cons (pe_callB (cr_sum rfl) (by rfl) B.sum (by decide +kernel) (pa_cons (pe_lc (own := [("who", 3)]) (g := gName 3) (tt := tYes) (te := tDGet (tFld K (tVar 0) "bits") (tVar 3)) rfl scCI.nd (pi_row (pv 2)) (blkOk_by (N := nCI) (sc := defScope sCI) (by decide +kernel)) (fun _ _ _ _ _ => pg_name (i := 3) scCI.nd rfl (Or.inl rfl)) (fun _ _ _ _ _ => pts_nil) (fun _ _ _ _ _ => pe_dget hu (pe_fld (pv 0) rfl) (pv 3) (fun _ _ => rfl))) pa_nil)) pe_int pps_nil) (by rfl) (by rfl) (fun z => by cases z) (by decide)) rfl)
    (pss_cons (ps_set (i := 4) scCI.nd rfl (.inl rfl) (pe_cal CBunch hr (pa_cons (pe_fld (pv 0) rfl) (pa_cons (pe_fld (pv 0) rfl) pa_nil))))
    (pss_one (ps_for PassesOwn.never rfl (pi_reversed (by rfl) B.reversed (pa_cons (pe_slice sl_list (pv 4) po_none (po_some (pe_un un_neg pe_int))) pa_nil)) (pg_name (i := 5) scCI.nd rfl (.inl rfl))
      (pss_one (ps_for PassesOwn.never rfl (pi_list (pv 5)) (pg_name (i := 6) scCI.nd rfl (.inl rfl))
          (pss_one (ps_dput hu (pe_fld (pv 0) rfl) (pv 6) (pe_callB (cr_sum rfl) (by rfl) B.sum (by decide +kernel) (pa_cons (pe_lc (own := [("who", 3), ("many", 7)]) (g := gTup K 2 (gCons (gName 3) (gCons (gName 7) gNil))) (tt := tYes) (te := tVar 7) rfl scCI.nd (pi_list (pe_methC (pv 0) CWB hr (pa_cons (pv 6) pa_nil))) (blkOk_by (N := nCI) (sc := defScope sCI) (by decide +kernel)) (fun _ _ _ _ _ => pg_tup rfl (pgs_cons (pg_name (i := 3) scCI.nd rfl (Or.inl rfl)) (pgs_cons (pg_name (i := 7) scCI.nd rfl (Or.inl rfl)) pgs_nil))) (fun _ _ _ _ _ => pts_nil) (fun _ _ _ _ _ => pv 7)) pa_nil)) rfl)))))))))), ?_⟩
  obtain ⟨p, a, r, dx, ps, row, rfl, hp, ha, hpl, hrow, nd, hn, g0, q⟩ := h
  have ha0 := FrAt.wo hp ha
  have hr0 := RowAt.wo hp hrow
  refine ⟨_, rfl, _, rfl, a, r, ps, row, rfl, ha, hpl, hrow, nd, by omega, g0, fun o H1 s1 no ho => ?_⟩
  have w1 : Same (wo H p) H1 := (wo_same H p).trans s1
  have p1 := s1 _ _ hp
  -- bits
  refine ⟨_, rfl, r, row, rfl, hr0.same w1, nd, by omega, fun D ks H2 s2 nD pm so hD => ?_⟩
  have ndk : ks.Nodup := pm.nodup_iff.mpr nd
  have lk : ks.length = row.length := pm.length_eq
  refine ⟨_, rfl, p, C, dx, _, rfl, s2 _ _ p1, T.cl, T.n1, (by show 0 < 1000; decide), ?_⟩
  have npD : p ≠ D := ne_of_none p1 nD
  obtain ⟨f1, ef1⟩ : ∃ f1, f1 = putF "bits" (V.ref D) [] := ⟨_, rfl⟩
  have lk1 : f1.lookup ("bits" : Str) = some (V.ref D) := by rw [ef1, lookup_putF, if_pos rfl]
  have ll1 : f1.length ≤ 1 := by rw [ef1]; exact putF_len _
  have w3 : Same (wo H p) (upd H2 p (.ins C dx (putF "bits" (V.ref D) []))) := wo_upd (w1.trans s2)
  have p3 : upd H2 p (.ins C dx (putF "bits" (V.ref D) [])) p = some (.ins C dx f1) := by rw [ef1]; exact upd_same
  have D3 : upd H2 p (.ins C dx (putF "bits" (V.ref D) [])) D = some (.dK (bitsK ks)) := (upd_ne npD.symm).trans hD
  generalize upd H2 p (.ins C dx (putF "bits" (V.ref D) [])) = H3 at w3 p3 D3 ⊢
  -- barrers
  refine ⟨_, rfl, _, rfl, _, rfl, p, C, dx, _, _, rfl, p3, T.cl, T.n1, lk1, a, r, D, ps, row, ks, rfl, ha0.same w3, hpl, hr0.same w3, nd, by omega, D3, pm, fun E H4 s4 nE bE => ?_⟩
  refine ⟨_, rfl, p, C, dx, _, rfl, s4 _ _ p3, T.cl, T.n2, (by show f1.length < 1000; omega), ?_⟩
  have npE : p ≠ E := ne_of_none p3 nE
  obtain ⟨f2, ef2⟩ : ∃ f2, f2 = putF "barrers" (V.ref E) f1 := ⟨_, rfl⟩
  have lk2 : f2.lookup ("bits" : Str) = some (V.ref D) := by rw [ef2, lookup_putF, if_neg (by decide +kernel)]; exact lk1
  have ll2 : f2.length ≤ 2 := by
    rw [ef2]
    exact Nat.le_trans (putF_len _) (by omega)
  have w5 : Same (wo H p) (upd H4 p (.ins C dx (putF "barrers" (V.ref E) f1))) := wo_upd (w3.trans s4)
  have p5 : upd H4 p (.ins C dx (putF "barrers" (V.ref E) f1)) p = some (.ins C dx f2) := by rw [ef2]; exact upd_same
  have D5 : upd H4 p (.ins C dx (putF "barrers" (V.ref E) f1)) D = some (.dK (bitsK ks)) := (upd_ne npD.symm).trans (s4 _ _ D3)
  have b5 : BarrAt (upd H4 p (.ins C dx (putF "barrers" (V.ref E) f1))) E ks (barB ps row) := by
    obtain ⟨kE, e1, e2, e3⟩ := bE
    exact ⟨kE, (upd_ne npE.symm).trans e1, e2, e3⟩
  have nDE : D ≠ E := ne_of_none D3 nE
  generalize upd H4 p (.ins C dx (putF "barrers" (V.ref E) f1)) = H5 at w5 p5 D5 b5 ⊢
  -- ways
  refine fun W nW => ?_
  have s6 := same_upd (o := .dK []) nW
  have hW6 : upd H5 W (.dK []) W = some (.dK []) := upd_same
  have row6 := (hr0.same w5).same s6
  refine ⟨.ref r, rfl, r, row, rfl, row6, fun J G wk hG L hL => ?_⟩
  refine lc_list wk row (fun y => V.int (bitN ks y : Nat)) (List.length_map _).symm (by rw [List.length_map]; omega) hL (fun H' s => hG H' (row6.kept s)) ?_ ?_
  · rintro i x v H7 H7' k hx s7 ⟨rfl, ex⟩ k1
    rw [ix_map hx] at ex
    cases ex
    have gD := DGet.k (k := .inr x) (s7 _ _ (s6 _ _ D5))
    rw [bits_get (pm.mem_iff.mpr (List.mem_of_getElem? hx))] at gD
    exact ⟨rfl, _, rfl, p, C, dx, _, _, rfl, s7 _ _ (s6 _ _ p5), T.cl, T.n1, lk2, _, rfl, D, _, rfl, gD, k1 _ (Same.refl _)⟩
  intro H7 s7 d7
  have d7' : H7 L = some (.lst ((row.map fun y => ((bitN ks y : Nat) : Int)).map V.int)) := by
    rw [d7, List.map_map]
    rfl
  refine ⟨L, _, rfl, .inl (.inl d7'), ?_⟩
  rw [sum_cast, sum_bits ndk row nd (fun y hy => pm.mem_iff.mpr hy), mkN_congr (q := fun _ => true) (fun x hx => decide_eq_true (pm.mem_iff.mp hx))]
  have s67 := s6.trans s7
  have npW : p ≠ W := ne_of_none p5 nW
  have nDW : D ≠ W := ne_of_none D5 nW
  have nEW : E ≠ W := by
    obtain ⟨kE, e1, _⟩ := b5
    exact ne_of_none e1 nW
  have nW0 : wo H p W = none := w5.free nW
  refine ⟨s7 _ _ hW6, [(.inl ((mkN ks fun _ => true : Nat) : Int), .int 1)], rfl, (by show 1 ≤ 15; decide), ?_⟩
  refine ⟨_, rfl, p, C, dx, _, rfl, (upd_ne npW).trans (s67 _ _ p5), T.cl, T.n3, (by show f2.length < 1000; omega), ?_⟩
  have w9 : Same (wo H p) (upd (upd H7 W (.dK (mergeK [] [((Sum.inl ((mkN ks fun _ => true : Nat) : Int) : Key), V.int 1)]))) p (.ins C dx (putF "ways" (V.ref W) f2))) := wo_upd fun b u z => by
    rw [upd_ne (ne_of_none z nW0)]
    exact (w5.trans s67) _ _ z
  have c9 : CountIs C (upd (upd H7 W (.dK (mergeK [] [((Sum.inl ((mkN ks fun _ => true : Nat) : Int) : Key), V.int 1)]))) p (.ins C dx (putF "ways" (V.ref W) f2))) p D E W ks (barB ps row) [((Sum.inl ((mkN ks fun _ => true : Nat) : Int) : Key), V.int 1)] := by
    obtain ⟨kE, e1, e2, e3⟩ := b5
    refine ⟨⟨dx, ?_⟩, ?_, ⟨kE, ?_, e2, e3⟩, ?_⟩
    · rw [upd_same, ef2, ef1]
      rfl
    · rw [upd_ne npD.symm, upd_ne nDW]
      exact s67 _ _ D5
    · rw [upd_ne npE.symm, upd_ne nEW]
      exact s67 _ _ e1
    · rw [upd_ne npW.symm]
      exact upd_same
  generalize upd (upd H7 W (.dK (mergeK [] [((Sum.inl ((mkN ks fun _ => true : Nat) : Int) : Key), V.int 1)]))) p (.ins C dx (putF "ways" (V.ref W) f2)) = H9 at w9 c9 ⊢
  obtain ⟨⟨dx9, p9⟩, D9, b9, W9⟩ := id c9
  -- sizes
  refine ⟨_, rfl, p, C, dx9, _, _, rfl, p9, T.cl, T.n1, fldsC_bits _ _ _, _, rfl, p, C, dx9, _, _, rfl, p9, T.cl, T.n2, fldsC_barrers _ _ _, D, E, ks, _, rfl, D9, b9, ndk, by omega, fun sz ls H10 s10 nz hz hls ll lv => ?_⟩
  have rz : (refsZ ls).length = ls.length := by unfold refsZ; rw [List.length_map]
  refine ⟨_, rfl, 1, rfl, _, rfl, sz, _, rfl, .inl (.inl hz), fun s2l hs2 => ?_⟩
  have e2l : cutV (refsZ ls) none (some (-1)) = refsZ ls.dropLast := by
    unfold refsZ
    rw [cutV_map, cutL_init]
  rw [e2l]
  have s11 := same_upd (o := .lst (refsZ ls.dropLast)) hs2
  have h11 : upd H10 s2l (.lst (refsZ ls.dropLast)) s2l = some (.lst (refsZ ls.dropLast)) := upd_same
  generalize upd H10 s2l (.lst (refsZ ls.dropLast)) = H11 at s11 h11 ⊢
  have s911 := s10.trans s11
  have ld : ls.dropLast.length = ks.length := by rw [List.length_dropLast]; omega
  have rd : (refsZ ls.dropLast).length = ks.length := by unfold refsZ; rw [List.length_map]; exact ld
  have p12 : 2 ^ ks.length ≤ 4096 := Nat.pow_le_pow_right (by decide) (by omega : ks.length ≤ 12)
  refine ⟨s2l, _, rfl, .inl (.inl h11), ?_⟩
  refine for_it (walk_rev (xs := refsZ ls.dropLast)) (fun i σ H' => ∃ (y5 y6 : Option V) (kvs : List (Key × V)), σ = [some (.ref p), some (.ref a), some (.ref r), none, some (.ref sz), y5, y6, none] ∧ Oth W H11 H' ∧ CountIs C H' p D E W ks (barB ps row) kvs ∧ kvs.length ≤ 1 + i * 4096 ∧ WaysUp ks (barB ps row) kvs fun j _ => ks.length ≤ j + i) ?_ ?_ ?_ ?_
  · exact ⟨_, _, _, rfl, Oth.refl _ _, c9.same s911, by simp, fun j m hr hp => ways_top ndk j m hr hp⟩
  · rintro i σ H' _ ⟨_, _, kvs, _, o12, c12, _⟩
    exact .inl (.inl (o12 _ _ (ne_of h11 (s911 _ _ W9) (fun z => nomatch z)) h11))
  · rintro i v σ H12' H12 hi ⟨y5, y6, kvs, rfl, o12, c12, l12, w12⟩ ⟨rfl, ex⟩
    rw [rd] at hi ex
    obtain ⟨z, hz', rfl⟩ : ∃ z, ls.dropLast[ks.length - 1 - i]? = some z ∧ v = V.ref z.1 := by
      unfold refsZ at ex
      exact at_map ex
    have hzl : ls[ks.length - 1 - i]? = some z := by
      rw [List.dropLast_eq_take, List.getElem?_take] at hz'
      split at hz'
      · exact hz'
      · cases hz'
    have lev := lv _ _ hzl
    have zs := hls z (List.mem_of_getElem? hzl)
    have z11 : H11 z.1 = some (.lst (z.2.map fun n : Nat => V.int (n : Nat))) := s11 _ _ zs
    have nzW : z.1 ≠ W := ne_of z11 (s911 _ _ W9) (fun z => nomatch z)
    refine ⟨_, rfl, z.1, rfl, ⟨_, .inl (.inl (o12 _ _ nzW z11))⟩, ?_⟩
    have lz := lev.size ndk
    refine for_it (walk_list (xs := z.2.map fun n : Nat => V.int (n : Nat))) (fun t σ H' => ∃ (y6 : Option V) (kvs : List (Key × V)), σ = [some (.ref p), some (.ref a), some (.ref r), none, some (.ref sz), some (.ref z.1), y6, none] ∧ Oth W H11 H' ∧ CountIs C H' p D E W ks (barB ps row) kvs ∧ kvs.length ≤ 1 + i * 4096 + t ∧ WaysUp ks (barB ps row) kvs fun j m => ks.length ≤ j + i ∨ (j = ks.length - 1 - i ∧ m ∈ z.2.take t)) ?_ ?_ ?_ ?_
    · exact ⟨_, kvs, rfl, o12, c12, by omega, fun j m hr hp => w12 j m hr (hp.resolve_right fun z => by rw [List.take_zero] at z; exact nomatch z.2)⟩
    · rintro t σ H' _ ⟨_, kvs, _, o13, _⟩
      exact .inl (.inl (o13 _ _ nzW z11))
    · rintro t v σ H13' H13 ht ⟨y6, kvs, rfl, o13, c13, l13, w13⟩ ⟨rfl, ex2⟩
      rw [List.length_map] at ht
      obtain ⟨m, hm, rfl⟩ := at_map ex2
      have rm := (lev.2 m).mp (List.mem_of_getElem? hm)
      have ml := rm.lt ndk
      obtain ⟨⟨dx13, p13⟩, D13, b13, W13⟩ := id c13
      refine ⟨_, rfl, p, dx13, _, rfl, p13, fldsC_no _ _ _ (by decide +kernel) (by decide +kernel) (by decide +kernel), _, rfl, p, D, E, W, m, ks, barB ps row, kvs, (fun x => waysN ks (barB ps row) (ks.length - (ks.length - 1 - i + 1)) (prN ks (m + bitN ks x))), rfl, c13, ndk, by omega, ml, ?_, fun rr ts H14 s14 nr hrr hts mts => ?_⟩
      · intro x hx
        exact w13 _ _ (.step rm hx) (.inl (by omega))
      have lts : ts.length ≤ 12 := by
        have h1 := congrArg List.length mts
        rw [List.length_map] at h1
        have h2 := nxtL_len (ks := ks) (bar := barB ps row) (p := prN ks m)
        omega
      refine ⟨rr, rfl, ⟨_, .inl (.inl hrr)⟩, fun L2 hL2 => ?_⟩
      refine lc_list (walk_list (xs := refsB ts)) ts (fun q => V.int (waysN ks (barB ps row) (ks.length - (ks.length - 1 - i + 1)) (prN ks (m + bitN ks q.2)) : Nat)) (by unfold refsB; rw [List.length_map]) (by unfold refsB; rw [List.length_map]; omega) hL2 (fun H' s => .inl (.inl (s _ _ hrr))) ?_ ?_
      · rintro j q2 v H15 H15' k hq2 s15 ⟨rfl, ex3⟩ k1
        unfold refsB at ex3
        rw [ix_map hq2] at ex3
        cases ex3
        obtain ⟨ob, _, h2⟩ := (hts q2 (List.mem_of_getElem? hq2)).same s15
        exact ⟨q2.1, _, rfl, .inl (.inr ⟨ob, h2⟩), rfl, _, _, rfl, _, _, rfl, rfl, rfl, _, rfl, k1 _ (Same.refl _)⟩
      intro H15 s15 d15
      have d15' : H15 L2 = some (.lst (((nxtL ks (barB ps row) (prN ks m)).map fun x => ((waysN ks (barB ps row) (ks.length - (ks.length - 1 - i + 1)) (prN ks (m + bitN ks x)) : Nat) : Int)).map V.int)) := by
        rw [d15, ← mts, List.map_map, List.map_map]
        rfl
      refine ⟨L2, _, rfl, .inl (.inl d15'), ?_⟩
      rw [sum_cast, ways_step ndk rm (by omega)]
      have s1315 := s14.trans s15
      have c15 := c13.same s1315
      obtain ⟨⟨dx15, p15⟩, D15, b15, W15⟩ := id c15
      have lt1 : i * 4096 ≤ 12 * 4096 := Nat.mul_le_mul_right _ (by omega)
      refine ⟨_, rfl, p, C, dx15, _, _, rfl, p15, T.cl, T.n3, fldsC_ways _ _ _, _, rfl, W, _, rfl, DPut.k (k := .inl (m : Int)) W15 (below16 (by omega)), ?_⟩
      refine ⟨_, _, rfl, (o13.trans (.of s1315)).trans Oth.upd, c15.put nDW nEW _, ?_, w13.put ndk rm fun j m' hr hp => ?_⟩
      · have := putK_lenK (kvs := kvs) (k := .inl (m : Int)) (v := V.int (waysN ks (barB ps row) (ks.length - (ks.length - 1 - i)) (prN ks m) : Nat))
        omega
      · rcases hp with hp | ⟨e1, e2⟩
        · exact .inl (.inl hp)
        · rw [List.take_add_one, hm] at e2
          rcases List.mem_append.mp e2 with u | u
          · exact .inl (.inr ⟨e1, u⟩)
          · exact .inr (by simpa using u)
    · rintro σ H13 ⟨y6, kvs, rfl, o13, c13, l13, w13⟩
      rw [List.length_map] at l13 w13
      refine ⟨_, _, kvs, rfl, o13, c13, by rw [Nat.succ_mul]; omega, fun j m hr hp => w13 j m hr ?_⟩
      by_cases c : ks.length ≤ j + i
      · exact .inl c
      · have ej : j = ks.length - 1 - i := by omega
        refine .inr ⟨ej, ?_⟩
        rw [List.take_of_length_le (Nat.le_refl _)]
        exact (lev.2 m).mpr (ej ▸ hr)
  · rintro σ H12 ⟨y5, y6, kvs, rfl, o12, c12, l12, w12⟩
    rw [rd] at w12
    refine q ks H12 (fun b u z => ?_) ⟨D, E, W, kvs, c12, fun j m hr _ => w12 j m hr (Nat.le_add_left _ _)⟩ pm so
    exact o12 _ _ (ne_of_none z nW0) (s911 _ _ (w9 _ _ z))
/-! ### how_many -/
abbrev sHM : Stmt := topS 28
abbrev nHM : List Str := ["friends", "row"]
abbrev pHM : List Str := ["friends", "row"]
theorem scHM : FnScope nHM pHM (defScope sHM) := ⟨rfl, rfl, rfl, by decide +kernel, rfl, by decide +kernel, by decide +kernel⟩
-- slots: 0:friends 1:row
theorem ok_hM {C f : Addr} {fd : FuncData} (T : TxtC K C) (CC : CalN P w K mg base 7 "Count" C ["self", "friends", "row"] (spCI C)) (F : Fun K "how_many" "how_many" sHM f fd) : FnOk P w K mg base CX0 9 f fd pHM spHM := by
  refine fok F scHM (fun vs H Q E h => ?_) (fun cdv A outer s H vs Q E hr h => ?_)
  · obtain ⟨a, r, ps, row, rfl, _⟩ := h
    rfl
  have hu := hu_of hr
  refine ⟨_, pss_one (ps_ret (pe_dget hu (pe_fld (pe_makeC CC hr (pa_cons (pv 0) (pa_cons (pv 1) pa_nil))) rfl) pe_int (fun _ _ => rfl))), ?_⟩
  obtain ⟨a, r, ps, row, rfl, ha, hp, hrow, nd, hn, g0, q⟩ := h
  refine ⟨_, rfl, _, rfl, fun x dx nx ndx nex => ?_⟩
  have sM : Same H (upd (upd H dx (.own x)) x (.ins C dx [])) := fun b u z => by
    rw [upd_ne (ne_of_none z nx), upd_ne (ne_of_none z ndx)]
    exact z
  refine ⟨x, a, r, dx, ps, row, rfl, upd_same, ha.same sM, hp, hrow.same sM, nd, hn, g0, fun ks H' s cA pm so => ⟨rfl, ?_⟩⟩
  obtain ⟨D, E', W, kvs, ⟨⟨dx', h1⟩, h2, h3, h4⟩, wu⟩ := cA
  have gW := DGet.k (k := .inl ((0 : Nat) : Int)) h4
  rw [wu 0 0 .zero trivial, Nat.sub_zero, waysN_perm pm, pm.length_eq, waysN_congr (q := fun _ => false) row.length (fun x _ => by unfold prN; simp)] at gW
  exact ⟨x, C, dx', _, _, rfl, h1, T.cl, T.n3, fldsC_ways _ _ _, W, _, rfl, gW, q H' (made_same nx ndx s)⟩
/-! ### bunches_by_size -/
abbrev sBunch : Stmt := topS 26
abbrev nBunch : List Str := ["bits", "barrers", "sizes", "grown", "bunch", "who"]
abbrev pBunch : List Str := ["bits", "barrers"]
theorem scBunch : FnScope nBunch pBunch (defScope sBunch) := ⟨rfl, rfl, rfl, by decide +kernel, rfl, by decide +kernel, by decide +kernel⟩
-- slots: 0:bits* 1:barrers* 2:sizes 3:grown 4:bunch 5:who
theorem refs_ints {ls : List LZ} {z : LZ} {l : List Nat} (h : refsZ (ls ++ [z]) = l.map fun n : Nat => V.int (n : Nat)) : False := by
  cases l with
  | nil => cases ls <;> exact nomatch h
  | cons a l => cases ls <;> exact nomatch h
theorem ok_bunch {f : Addr} {fd : FuncData} (B : Blt mg) (CNo : Cal P w K mg base 1 "next_ones" ["bits", "barrers", "bunch"] spNextO) (F : Fun K "bunches_by_size" "bunches_by_size" sBunch f fd) : FnOk P w K mg base CX0 2 f fd pBunch spBunch := by
  refine fok F scBunch (fun vs H Q E h => ?_) (fun cdv A outer s H vs Q E hr h => ?_)
  · obtain ⟨D, E, ks, bar, rfl, _⟩ := h
    rfl
  have hu := hu_of hr
  refine ⟨_, pss_cons (ps_set (i := 2) scBunch.nd rfl (.inl rfl) (pe_lst (pa_cons (pe_lst (pa_cons pe_int pa_nil)) pa_nil)))
    (pss_cons (ps_while PassesOwn.never (pt_cmpR op_le (pe_callB call_len_seq (by rfl) B.len PySem.boot_len (pa_cons (pv 2) pa_nil)) (pe_callB call_lenD (by rfl) B.len PySem.boot_len (pa_cons (pv 0) pa_nil)) (nomark _))
      (pss_cons (ps_setDc2 (i := 3) (own := [("bunch", 4), ("who", 5)]) (vs1 := [5]) (g := gName 4) (tt := tYes) (wi1 := iList K (tCall spNextO [] E0 (tCons (tVar 0) (tCons (tVar 1) (tCons (tVar 4) tNil))))) (g1 := gName 5) (tt1 := tYes) (tk := tOp (rI0 fun i j => .int (i + j)) (tVar 4) (tDGet (tVar 0) (tVar 5))) (tv := tC (.bl true)) rfl scBunch.nd rfl rfl (by rfl) (pi_list (pe_ix ix_list (pv 2) (pe_un un_neg pe_int) (fun _ _ => rfl))) (blkOk_by (N := nBunch) (sc := defScope sBunch) (by decide +kernel)) (by decide)
        (fun _ _ _ _ _ => pg_name (i := 4) scBunch.nd rfl (Or.inl rfl)) (fun _ _ _ _ _ => pts_nil) (fun _ _ _ _ _ => pi_list (pe_cal CNo hr (pa_cons (pv 0) (pa_cons (pv 1) (pa_cons (pv 4) pa_nil))))) (fun _ _ _ _ _ => pg_name (i := 5) scBunch.nd rfl (Or.inl rfl)) (fun _ _ _ _ _ => pts_nil) (fun _ _ _ _ _ => pe_op op_add (pv 4) (pe_dget hu (pv 0) (pv 5) (fun _ _ => rfl))) (fun _ _ _ _ _ => pe_bl))
        (pss_one (ps_expr (pe_bm PySem.F.plainAttrs_list PySem.F.slot_list_append PySem.F.type_list_append mt_append (pv 2) (pa_cons (pe_callTy (call_listD rfl) (by rfl) B.list (by decide +kernel) (pa_cons (pv 3) pa_nil)) pa_nil))))))
    (pss_one (ps_ret (pv 2)))), ?_⟩
  obtain ⟨D, E, ks, bar, rfl, hD, hE, nd, hn, q⟩ := h
  have p12 : 2 ^ ks.length ≤ 4096 := Nat.pow_le_pow_right (by decide) hn
  refine ⟨(by show 1 ≤ sizeLine; decide), fun l0 hl0 => ⟨(by show 1 ≤ sizeLine; decide), fun L hL0 => ?_⟩⟩
  have hL : H L = none := (same_upd hl0).free hL0
  have nL : l0 ≠ L := fun e => by
    rw [← e] at hL0
    exact nomatch (upd_same (H := H) (a := l0) (o := .lst [V.int 0])).symm.trans hL0
  refine while_by (fun σ H' => ∃ (ls : List LZ) (z : LZ) (y3 : Option V), σ = [some (.ref D), some (.ref E), some (.ref L), y3, none, none] ∧ Same H H' ∧ H' L = some (.lst (refsZ (ls ++ [z]))) ∧ SizesAt H' (ls ++ [z]) ∧ LevsOk ks bar (ls ++ [z]) ∧ ls.length ≤ ks.length)
    (fun σ H' => match H' L with | some (.lst xs) => ks.length + 1 - xs.length | _ => 0) ?_ ?_ ?_
  · refine ⟨[], (l0, [0]), none, rfl, (same_upd hl0).trans (same_upd hL0), upd_same, fun q' hq => ?_, fun i q' e => ?_, Nat.zero_le _⟩
    · rw [List.mem_singleton.mp hq]
      exact (upd_ne nL).trans upd_same
    · cases i with
      | zero =>
        cases e
        exact lev_zero
      | succ i => cases e
  · rintro σ H1 ⟨ls, z, y3, rfl, s1, dL, dZ, lv, hl⟩
    refine ⟨_, rfl, L, _, rfl, .inl (.inl (.inl dL)), _, rfl, D, _, rfl, s1 _ _ hD, _, _, rfl, rfl, _, rfl, ?_⟩
    refine ite2 (fun c => ?_) (fun c => ?_)
    · have lt : ls.length < ks.length := by
        have c' := of_decide_eq_true c
        unfold refsZ bitsK at c'
        simp only [List.length_map, List.length_append, List.length_singleton] at c'
        omega
      have lz := lv ls.length z (by simp)
      have sz := lz.size nd
      have hz1 := dZ z (by simp)
      refine ⟨_, rfl, _, rfl, L, _, _, .ref z.1, rfl, rfl, .inl (.inl dL), ?_, z.1, rfl, ⟨_, .inl (.inl hz1)⟩, fun Dn hDn => ?_⟩
      · unfold refsZ
        rw [List.map_append]
        exact atI_last _ _
      refine dc2_it (walk_list (xs := z.2.map fun n : Nat => V.int (n : Nat))) (fun i H' => Same H1 H' ∧ ∃ gs, H' Dn = some (.dK (keysU gs)) ∧ Grown ks bar z.2 i 0 gs) ?_ ?_ ?_ ?_
      · exact ⟨same_upd hDn, [], upd_same, Grown.zero⟩
      · rintro i H' _ ⟨s2, _⟩
        exact .inl (.inl (s2 _ _ hz1))
      · rintro i v H2 H3 hi ⟨s2, gs, d2, g2⟩ ⟨rfl, ex⟩
        obtain ⟨n, hn1, rfl⟩ := at_map ex
        rw [List.length_map] at hi
        have s12 := s1.trans s2
        have rn : Rch ks bar ls.length n := (lz.2 n).mp (List.mem_of_getElem? hn1)
        refine ⟨rfl, _, rfl, _, rfl, _, rfl, D, E, n, ks, bar, rfl, s12 _ _ hD, hE.same s12, nd, by omega, rn.lt nd, fun p H4 s4 np hp => ?_⟩
        refine ⟨p, rfl, ⟨_, .inl (.inl hp)⟩, ?_⟩
        refine dc1_it (walk_list (xs := (nxtL ks bar (prN ks n)).map V.str)) (fun j H' => Same H1 H' ∧ H' p = some (.lst ((nxtL ks bar (prN ks n)).map V.str)) ∧ ∃ gs, H' Dn = some (.dK (keysU gs)) ∧ Grown ks bar z.2 i j gs) ?_ ?_ ?_ ?_
        · exact ⟨s2.trans s4, hp, gs, s4 _ _ d2, g2⟩
        · rintro j H' _ ⟨_, e, _⟩
          exact .inl (.inl e)
        · rintro j v H5 H6 hj ⟨s5, hp5, gs5, d5, g5⟩ ⟨rfl, ex⟩
          obtain ⟨x, hx, rfl⟩ := at_map ex
          rw [List.length_map] at hj
          have mx := (nxtL_mem.mp (List.mem_of_getElem? hx)).1
          have gD := DGet.k (k := .inr x) (s5 _ _ (s1 _ _ hD))
          rw [bits_get mx] at gD
          have nlen := nxtL_len (ks := ks) (bar := bar) (p := prN ks n)
          refine ⟨rfl, _, rfl, _, rfl, _, rfl, D, _, rfl, gD, _, _, rfl, rfl, keysU gs5, .inl ((n + bitN ks x : Nat) : Int), rfl, d5, ?_, fun b o' e => ?_, ?_, _, ?_, g5.step hn1 hx⟩
          · have := g5.len
            have h1 : i * ks.length ≤ 4096 * 12 := Nat.mul_le_mul (by omega) hn
            unfold keysU
            rw [List.length_map]
            exact Nat.lt_of_lt_of_le (show gs5.length < 2 ^ 24 by omega) (Nat.le_refl _)
          · rw [upd_ne (ne_of_none e hDn)]
            exact s5 _ _ e
          · rw [upd_ne (ne_of hp5 d5 (fun e => nomatch e))]
            exact hp5
          · rw [upd_same, ← put_keysU]
        · rintro H5 ⟨s5, _, gs5, d5, g5⟩
          rw [List.length_map] at g5
          exact ⟨s5, gs5, d5, g5.next hn1⟩
      · rintro H2 ⟨s2, gs, d2, g2⟩
        rw [List.length_map] at g2
        have gl := g2.done lz
        refine ⟨_, rfl, .inl ⟨rfl, _, .inl (.inl (s2 _ _ dL))⟩, _, rfl, Dn, _, rfl, .inl d2, fun p hp => ?_⟩
        rw [keysU_list]
        have s3 := same_upd (o := .lst (gs.map fun n : Nat => V.int (n : Nat))) hp
        have dL2 := s3 _ _ (s2 _ _ dL)
        refine ⟨L, _, _, rfl, rfl, dL2, ?_, ⟨ls ++ [z], (p, gs), _, rfl, fun b o' e => ?_, ?_, fun q' hq => ?_, fun i q' e => ?_, ?_⟩, ?_⟩
        · unfold refsZ
          rw [List.length_map, List.length_append, List.length_singleton]
          exact small1000 (by omega)
        · rw [upd_ne (ne_of_none e hL)]
          exact s3 _ _ (s2 _ _ (s1 _ _ e))
        · rw [upd_same]
          unfold refsZ
          rw [List.map_append (l₁ := ls ++ [z])]
          rfl
        · have nq : q'.1 ≠ L := fun e => ?_
          · rw [upd_ne nq]
            rcases List.mem_append.mp hq with u | u
            · exact s3 _ _ (s2 _ _ (dZ q' u))
            · rw [List.mem_singleton.mp u]
              exact upd_same
          · rcases List.mem_append.mp hq with u | u
            · have e1 := dZ q' u
              rw [e, dL] at e1
              have e2 : refsZ (ls ++ [z]) = q'.2.map fun n : Nat => V.int (n : Nat) := by injection e1 with e1; injection e1
              exact (refs_ints e2).elim
            · rw [List.mem_singleton.mp u] at e
              have e' : p = L := e
              rw [e', s2 _ _ dL] at hp
              cases hp
        · by_cases c2 : i < (ls ++ [z]).length
          · rw [List.getElem?_append_left c2] at e
            exact lv i q' e
          · rw [List.getElem?_append_right (by omega)] at e
            have i0 : i - (ls ++ [z]).length = 0 := by
              have := (List.getElem?_eq_some_iff.mp e).1
              simp only [List.length_singleton] at this
              omega
            rw [i0] at e
            cases e
            have : i = ls.length + 1 := by
              simp only [List.length_append, List.length_singleton] at i0 c2
              omega
            rw [this]
            exact gl
        · simp only [List.length_append, List.length_singleton]
          omega
        · show (match upd _ L _ L with | some (.lst xs) => ks.length + 1 - xs.length | _ => 0) < (match H1 L with | some (.lst xs) => ks.length + 1 - xs.length | _ => 0)
          rw [upd_same, dL]
          show ks.length + 1 - (refsZ (ls ++ [z]) ++ [V.ref p]).length < ks.length + 1 - (refsZ (ls ++ [z])).length
          unfold refsZ
          simp only [List.length_map, List.length_append, List.length_singleton]
          omega
    · have le : ls.length = ks.length := by
        have c' := of_decide_eq_false (Bool.eq_false_iff.mpr c)
        unfold refsZ bitsK at c'
        simp only [List.length_map, List.length_append, List.length_singleton] at c'
        omega
      exact ⟨_, rfl, q L (ls ++ [z]) H1 s1 hL dL dZ (by simp; omega) lv⟩
  · rintro σ H1 Q1 Q2 imp ⟨a, e1, b, c, e2, h1, d, e3, e, f, e4, h2, i, j, e5, e6, k, e7, x⟩
    exact ⟨a, e1, b, c, e2, h1, d, e3, e, f, e4, h2, i, j, e5, e6, k, e7, imp _ _ x⟩
/-! ### NoOrder -/
abbrev sINoOrder : Stmt := clsFn (topS 9) 0
abbrev nINoOrder : List Str := ["self", "number"]
theorem scINoOrder : FnScope nINoOrder nINoOrder (defScope sINoOrder) := ⟨rfl, rfl, rfl, by decide +kernel, rfl, by decide +kernel, by decide +kernel⟩
theorem ok_iNoOrder {C f : Addr} {fd : FuncData} (T : OwnK K mg "NoOrder" "LookupError" "LookupError.__new__" "LookupError.__init__" "LookupError" C f) (hnumber : PySem.W.findIn K (.ref C) "number" = some none) (F : Fun K "__init__" "NoOrder.__init__" sINoOrder f fd) : L2.FnOk P w K mg base L2.CX0 1 f fd nINoOrder (spInit1 C "number") := by
  refine F.ok scINoOrder (fun vs H Q E h => ?_) (fun cdv A outer s H vs Q E hr h => ?_)
  · obtain ⟨a, v, rfl, _⟩ := h
    rfl
  refine ⟨_, pss_cons (ps_expr (pe_baseinit base_LE (by rfl) T.nB PyProof.Rows.Boot.«LookupError» T.vB (pa_cons (pv 0) (pa_cons (pe_joined (.cons pe_str (.cons (pe_fmt (pv 1)) .nil))) pa_nil))))
    (pss_one (ps_put base_LE (pv 0) (pv 1))), ?_⟩
  obtain ⟨a, v, rfl, ha, fo, q⟩ := h
  have e0 : (Str.empty).length ≤ 0 := Nat.le_refl _
  rcases fo with ⟨i, rfl, hi⟩ | ⟨z, rfl, hz⟩
  · have l1 := fit_k e0 (c := "there is no order ") (m := 18) (by decide +kernel)
    have l2 := fit_k l1 (c := (Str.ofString (toString i))) (int_len hi)
    exact ⟨_, rfl, _, rfl, fit_line l1 (by decide), _, rfl, .inr ⟨i, rfl, (Nat.lt_trans hi (by decide)), _, rfl, fit_line l2 (by decide), a, C, _, rfl, (by show 1 ≤ 1000; decide), T.O, ha, _, rfl, _, rfl, a, C, rfl, T.O, hnumber, .inl ⟨ha, fun dx h1 h2 => q dx h1 h2⟩⟩⟩
  · have l1 := fit_k e0 (c := "there is no order ") (m := 18) (by decide +kernel)
    have l2 := fit_k l1 (c := z) hz
    exact ⟨_, rfl, _, rfl, fit_line l1 (by decide), _, rfl, .inl ⟨z, rfl, (fit_line hz (by decide)), _, rfl, fit_line l2 (by decide), a, C, _, rfl, (by show 1 ≤ 1000; decide), T.O, ha, _, rfl, _, rfl, a, C, rfl, T.O, hnumber, .inl ⟨ha, fun dx h1 h2 => q dx h1 h2⟩⟩⟩
/-! ### Count.next_of_number -/
abbrev sNN : Stmt := clsFn (topS 27) 2
abbrev nNN : List Str := ["self", "bunch", "number", "below", "who", "many"]
abbrev pNN : List Str := ["self", "bunch", "number"]
theorem scNN : FnScope nNN pNN (defScope sNN) := ⟨rfl, rfl, rfl, by decide +kernel, rfl, by decide +kernel, by decide +kernel⟩
-- slots: 0:self 1:bunch 2:number 3:below 4:who 5:many
theorem ok_nN {C f : Addr} {fd : FuncData} (CWB : CalM P w K mg base 2 C "ways_by_next" ["self", "bunch"] (spWB C)) (F : Fun K "next_of_number" "Count.next_of_number" sNN f fd) : FnOk P w K mg base CX0 3 f fd pNN (spNN C) := by
  refine fok F scNN (fun vs H Q E h => ?_) (fun cdv A outer s H vs Q E hr h => ?_)
  · obtain ⟨p, D, E, W, n, i, r, x, ks, bar, kvs, f, rfl, _⟩ := h
    rfl
  have hu := hu_of hr
  refine ⟨_, pss_cons (ps_set (i := 3) scNN.nd rfl (.inl rfl) pe_int)
    (pss_cons (ps_for PassesOwn.never rfl (pi_list (pe_methC (pv 0) CWB hr (pa_cons (pv 1) pa_nil))) (pg_tup rfl (pgs_cons (pg_name (i := 4) scNN.nd rfl (.inl rfl)) (pgs_cons (pg_name (i := 5) scNN.nd rfl (.inl rfl)) pgs_nil)))
      (pss_cons (ps_if (pt_cmpR op_lt (pv 2) (pe_op op_add (pv 3) (pv 5)) (nomark _))
          (pss_one ps_break)
          pss_nil)
        (pss_one (ps_aug (i := 3) scNN.nd rfl (.inl rfl) (pv 5) ip_add))))
    (pss_one (ps_ret (pe_tupF (pa_cons (pv 4) (pa_cons (pe_op op_sub (pv 2) (pv 3)) pa_nil)))))), ?_⟩
  obtain ⟨p, D, E, W, n, i, r, x, ks, bar, kvs, g, rfl, cI, nd, hn, hlt, hg, hpk, q⟩ := h
  obtain ⟨⟨dx, hp⟩, hD, hE, hW⟩ := id cI
  obtain ⟨l1, l2, e1, e2, e3⟩ := pick_spec hpk
  refine ⟨_, rfl, p, dx, _, rfl, hp, fldsC_no _ _ _ (by decide +kernel) (by decide +kernel) (by decide +kernel), _, rfl, p, D, E, W, n, ks, bar, kvs, g, rfl, cI, nd, hn, hlt, hg, fun rr ts H1 s1 nr hrr hts mts => ?_⟩
  refine ⟨rr, rfl, ⟨_, .inl (.inl hrr)⟩, ?_⟩
  have lts : ts.length = (l1 ++ x :: l2).length := by
    have := congrArg List.length mts
    rw [List.length_map, e1] at this
    exact this
  refine for_it (walk_list (xs := refsB ts)) (fun j σ H' => ∃ (y4 y5 : Option V), σ = [some (.ref p), some (.int (n : Nat)), some (.int (i : Nat)), some (.int ((((l1 ++ x :: l2).take j).map g).sum : Nat)), y4, y5] ∧ Same H1 H' ∧ j ≤ l1.length) ?_ ?_ ?_ ?_
  · exact ⟨_, _, rfl, Same.refl _, Nat.zero_le _⟩
  · rintro j σ H' _ ⟨_, _, _, s2, _⟩
    exact .inl (.inl (s2 _ _ hrr))
  · rintro j v σ H2' H2 hj ⟨y4, y5, rfl, s2, jl⟩ ⟨rfl, ex⟩
    unfold refsB at ex
    obtain ⟨t, ht, rfl⟩ := at_map ex
    have hz : (l1 ++ x :: l2)[j]? = some t.2 := by
      rw [← e1, ← mts, List.getElem?_map, ht]
      rfl
    obtain ⟨ob, _, h2⟩ := (hts t (List.mem_of_getElem? ht)).same s2
    refine ⟨t.1, _, rfl, .inl (.inr ⟨ob, h2⟩), rfl, _, _, rfl, _, _, rfl, rfl, ?_⟩
    refine ⟨_, rfl, _, rfl, _, rfl, _, _, rfl, rfl, _, _, rfl, rfl, _, rfl, ?_⟩
    have tk : ((l1 ++ x :: l2).take (j + 1)) = (l1 ++ x :: l2).take j ++ [t.2] := by
      rw [List.take_add_one, hz]
      rfl
    rcases Nat.lt_or_ge j l1.length with c | c
    · have c2 : ¬ (((i : Nat) : Int) < ((((l1 ++ x :: l2).take j).map g).sum : Nat) + ((g t.2 : Nat) : Int)) := fun z => by
        have e4 : (((l1 ++ x :: l2).take (j + 1)).map g).sum ≤ (l1.map g).sum := by
          rw [List.take_append_of_le_length (by omega)]
          have := List.take_append_drop (j + 1) l1
          have e5 : (l1.map g).sum = ((l1.take (j + 1)).map g).sum + ((l1.drop (j + 1)).map g).sum := by
            rw [← List.sum_append_nat, ← List.map_append, this]
          omega
        have e6 : ([t.2].map g).sum = g t.2 := by simp
        rw [tk, List.map_append, List.sum_append_nat, e6] at e4
        omega
      refine ite2 (fun z => absurd (of_decide_eq_true z) c2) (fun _ => ?_)
      have es : (((l1 ++ x :: l2).take (j + 1)).map g).sum = (((l1 ++ x :: l2).take j).map g).sum + g t.2 := by
        rw [tk, List.map_append, List.sum_append_nat]
        simp
      refine ⟨_, rfl, _, rfl, _, _, rfl, rfl, some (.str t.2), some (.int (g t.2 : Nat)), ?_, s2, c⟩
      rw [es, Int.natCast_add]
      rfl
    · have ej : j = l1.length := Nat.le_antisymm jl c
      subst ej
      rw [List.getElem?_append_right (Nat.le_refl _), Nat.sub_self] at hz
      have et : t.2 = x := (Option.some.inj hz).symm
      have tl : ((l1 ++ x :: l2).take l1.length) = l1 := List.take_left
      rw [et, tl]
      refine ite2 (fun _ => ?_) (fun z => absurd (decide_eq_true (by omega)) z)
      refine ⟨_, rfl, _, rfl, _, rfl, _, _, rfl, rfl, (by show 2 ≤ sizeLine; decide), fun T H3 s3 n3 e3' => ?_⟩
      have er : ((i : Nat) : Int) - (((l1.map g).sum : Nat) : Int) = ((r : Nat) : Int) := by omega
      have e4' : TupAt H3 T [V.str x, V.int (((i : Nat) : Int) - (((l1.map g).sum : Nat) : Int))] := e3'
      rw [er] at e4'
      exact q T H3 ((s1.trans s2).trans s3) e4'
  · rintro σ H2 ⟨y4, y5, rfl, s2, jl⟩
    exfalso
    unfold refsB at jl
    rw [List.length_map, lts, List.length_append, List.length_cons] at jl
    omega
/-! ### nth_order -/
abbrev sNthO : Stmt := topS 29
abbrev nNthO : List Str := ["friends", "row", "number", "count", "order", "bunch", "rest", "who"]
abbrev pNthO : List Str := ["friends", "row", "number"]
theorem scNthO : FnScope nNthO pNthO (defScope sNthO) := ⟨rfl, rfl, rfl, by decide +kernel, rfl, by decide +kernel, by decide +kernel⟩
-- slots: 0:friends 1:row 2:number 3:count 4:order 5:bunch 6:rest 7:who
theorem ok_nthO {C f : Addr} {fd : FuncData} (B : Blt mg) (T : TxtC K C) (CC : CalN P w K mg base 7 "Count" C ["self", "friends", "row"] (spCI C)) (CNN : CalM P w K mg base 3 C "next_of_number" ["self", "bunch", "number"] (spNN C)) (F : Fun K "nth_order" "nth_order" sNthO f fd) : FnOk P w K mg base CX0 9 f fd pNthO spNthO := by
  refine fok F scNthO (fun vs H Q E h => ?_) (fun cdv A outer s H vs Q E hr h => ?_)
  · obtain ⟨a, r, i, ps, row, ks, order, rfl, _⟩ := h
    rfl
  have hu := hu_of hr
  refine ⟨_, pss_cons (ps_set (i := 3) scNthO.nd rfl (.inl rfl) (pe_makeC CC hr (pa_cons (pv 0) (pa_cons (pv 1) pa_nil))))
    (pss_cons (ps_if (pt_not (pt_chain op_le op_lt pe_int (pv 2) (pe_dget hu (pe_fld (pv 3) rfl) pe_int (fun _ _ => rfl))))
      (pss_one ps_never)
      pss_nil)
    (pss_cons (ps_set (i := 4) scNthO.nd rfl (.inl rfl) (pe_lst pa_nil))
    (pss_cons (ps_set (i := 5) scNthO.nd rfl (.inl rfl) pe_int)
    (pss_cons (ps_set (i := 6) scNthO.nd rfl (.inl rfl) (pv 2))
    (pss_cons (ps_while PassesOwn.never (pt_cmpR op_lt (pe_callB call_len_seq (by rfl) B.len PySem.boot_len (pa_cons (pv 4) pa_nil)) (pe_callB call_len_seq (by rfl) B.len PySem.boot_len (pa_cons (pv 1) pa_nil)) (nomark _))
      (pss_cons (ps_asg (pe_methC (pv 3) CNN hr (pa_cons (pv 5) (pa_cons (pv 6) pa_nil))) (pg_tup rfl (pgs_cons (pg_name (i := 7) scNthO.nd rfl (.inl rfl)) (pgs_cons (pg_name (i := 6) scNthO.nd rfl (.inl rfl)) pgs_nil))))
        (pss_cons (ps_expr (pe_bm PySem.F.plainAttrs_list PySem.F.slot_list_append PySem.F.type_list_append mt_append (pv 4) (pa_cons (pv 7) pa_nil)))
        (pss_one (ps_aug (i := 5) scNthO.nd rfl (.inl rfl) (pe_dget hu (pe_fld (pv 3) rfl) (pv 7) (fun _ _ => rfl)) ip_add)))))
    (pss_one (ps_ret (pv 4)))))))), ?_⟩
  obtain ⟨a, r, i, ps, row, ks, order, rfl, ha, hp, hrow, nd, hn, g0, so, hord, q⟩ := h
  refine ⟨_, rfl, _, rfl, fun x dx nx ndx nex => ?_⟩
  have sM : Same H (upd (upd H dx (.own x)) x (.ins C dx [])) := fun b u z => by
    rw [upd_ne (ne_of_none z nx), upd_ne (ne_of_none z ndx)]
    exact z
  refine ⟨x, a, r, dx, ps, row, rfl, upd_same, ha.same sM, hp, hrow.same sM, nd, hn, g0, fun ks' H1 s1' cA pm so' => ⟨rfl, ?_⟩⟩
  have s1 : Same H H1 := made_same nx ndx s1'
  obtain rfl : ks' = ks := SortOf.uniq ⟨pm, so'⟩ so
  have ndk : ks'.Nodup := pm.nodup_iff.mpr nd
  have lk : ks'.length = row.length := pm.length_eq
  obtain ⟨D, E', W, kvs, cI, wu⟩ := cA
  obtain ⟨⟨dx', h1⟩, h2, h3, h4⟩ := id cI
  have gW := DGet.k (k := .inl ((0 : Nat) : Int)) h4
  rw [wu 0 0 .zero trivial, Nat.sub_zero, lk] at gW
  have hl : i < waysN ks' (barB ps row) row.length (prN ks' 0) := by
    rw [← allN_len, allN_none]
    exact (List.getElem?_eq_some_iff.mp hord).1
  refine ⟨_, rfl, _, _, rfl, rfl, _, rfl, ite2 (fun _ => ?_) (fun c => absurd (decide_eq_true (by omega)) c)⟩
  refine ⟨_, rfl, x, C, dx', _, _, rfl, h1, T.cl, T.n3, fldsC_ways _ _ _, W, _, rfl, gW, _, _, rfl, rfl, _, rfl, ?_⟩
  refine ite2 (fun c => ?_) (fun _ => ?_)
  · have e : decide (((i : Nat) : Int) < ((waysN ks' (barB ps row) row.length (prN ks' 0) : Nat) : Int)) = true := decide_eq_true (by omega)
    have := (congrArg (fun b => !b) e).symm.trans c
    cases this
  refine ⟨(by show 0 ≤ sizeLine; decide), fun l hl0 => ?_⟩
  have s2 := same_upd (o := .lst []) hl0
  have nl : H l = none := s1.free hl0
  refine ⟨_, rfl, ?_⟩
  refine while_by (fun σ H' => ∃ (acc : List Str) (n k : Nat) (y7 : Option V), σ = [some (.ref a), some (.ref r), some (.int (i : Nat)), some (.ref x), some (.ref l), some (.int (n : Nat)), some (.int (k : Nat)), y7] ∧ Same H1 H' ∧ H' l = some (.lst (acc.map V.str)) ∧ Rch ks' (barB ps row) acc.length n ∧ k < waysN ks' (barB ps row) (row.length - acc.length) (prN ks' n) ∧ (ordN ps row ks')[i]? = ((allN ks' (barB ps row) (row.length - acc.length) (prN ks' n))[k]?).map (acc ++ ·))
    (fun σ H' => match H' l with | some (.lst xs) => row.length - xs.length | _ => 0) ?_ ?_ ?_
  · refine ⟨[], 0, i, none, rfl, s2, upd_same, .zero, hl, ?_⟩
    show _ = ((allN ks' (barB ps row) (row.length - 0) (prN ks' 0))[i]?).map _
    rw [Nat.sub_zero, allN_none]
    show (allN ks' (barB ps row) row.length fun _ => false)[i]? = _
    rw [show (fun x : List Str => [] ++ x) = id from funext fun x => rfl, Option.map_id]
    rfl
  · rintro σ H2 ⟨acc, n, k, y7, rfl, s3, l3, rc, kl, ho⟩
    have row2 := hrow.same (s1.trans s3)
    have rl : ∃ p ys, [V.ref r] = [V.ref p] ∧ (SqL K H2 p ys ∨ SqT K H2 p ys) ∧ ys.length = row.length := by
      rcases row2 with e | e
      · exact ⟨r, _, rfl, .inr e.sq, List.length_map _⟩
      · exact ⟨r, _, rfl, .inl (.inl (.inl e)), List.length_map _⟩
    obtain ⟨rp, ys, er, hsq, ly⟩ := rl
    have accl : acc.length ≤ row.length := by
      rw [← lk]
      exact rc.le ndk
    refine ⟨_, rfl, l, _, rfl, .inl (.inl (.inl l3)), _, rfl, rp, ys, er, hsq, _, _, rfl, rfl, _, rfl, ?_⟩
    rw [List.length_map, ly]
    refine ite2 (fun c => ?_) (fun c => ?_)
    · have lt : acc.length < row.length := by
        have := of_decide_eq_true c
        omega
      obtain ⟨m, hm⟩ : ∃ m, row.length - acc.length = m + 1 := ⟨row.length - acc.length - 1, by omega⟩
      rw [hm] at kl ho
      have kl' : k < ((nxtL ks' (barB ps row) (prN ks' n)).map fun x => waysN ks' (barB ps row) m fun z => prN ks' n z || z == x).sum := kl
      obtain ⟨y, k', hpk⟩ := pick_has kl'
      have hy := pick_mem hpk
      have hpk2 : pickL (fun x => waysN ks' (barB ps row) m (prN ks' (n + bitN ks' x))) (nxtL ks' (barB ps row) (prN ks' n)) k = some (y, k') := by
        rw [← hpk]
        exact pick_congr fun z hz => (waysN_put ndk rc hz m).symm
      rw [nth_step hpk, Option.map_map] at ho
      have nlx : l ≠ x := (ne_of_none h1 hl0).symm
      have cI2 := cI.same s3
      obtain ⟨⟨dx2, p2⟩, D2, b2, W2⟩ := id cI2
      refine ⟨_, rfl, x, dx2, _, rfl, p2, fldsC_no _ _ _ (by decide +kernel) (by decide +kernel) (by decide +kernel), _, rfl, _, rfl, x, D, E', W, n, k, k', y, ks', barB ps row, kvs, (fun x => waysN ks' (barB ps row) m (prN ks' (n + bitN ks' x))), rfl, cI2, ndk, by omega, rc.lt ndk, ?_, hpk2, fun TT H3 s4 e4 => ?_⟩
      · intro z hz
        have := wu _ _ (.step rc hz) trivial
        rw [lk, show row.length - (acc.length + 1) = m by omega] at this
        exact this
      obtain ⟨ob, _, et⟩ := e4
      refine ⟨TT, _, rfl, .inl (.inr ⟨ob, et⟩), rfl, _, _, rfl, _, _, rfl, rfl, ?_⟩
      have l4 := s4 _ _ l3
      refine ⟨_, rfl, .inl ⟨rfl, _, .inl (.inl l4)⟩, _, rfl, l, _, _, rfl, rfl, l4, small1000 (by rw [List.length_map]; omega), ?_⟩
      have hD := DGet.k (k := .inr y) (H := upd H3 l (.lst (acc.map V.str ++ [V.str y]))) (kvs := bitsK ks') ((upd_ne (ne_of D2 l3 (fun z => nomatch z)) |>.trans (s4 _ _ D2)))
      rw [bits_get (nxtL_mem.mp hy).1] at hD
      refine ⟨_, rfl, _, rfl, x, C, dx2, _, _, rfl, (upd_ne nlx.symm).trans (s4 _ _ p2), T.cl, T.n1, fldsC_bits _ _ _, _, rfl, D, _, rfl, hD, _, _, rfl, rfl, ?_⟩
      refine ⟨⟨acc ++ [y], n + bitN ks' y, k', _, rfl, fun b o z => ?_, ?_, ?_, ?_, ?_⟩, ?_⟩
      · rw [upd_ne (ne_of_none z hl0)]
        exact s4 _ _ (s3 _ _ z)
      · rw [upd_same, List.map_append]
        rfl
      · rw [List.length_append]
        exact .step rc hy
      · rw [List.length_append, show row.length - (acc.length + [y].length) = m by show row.length - (acc.length + 1) = m; omega]
        obtain ⟨_, _, _, _, e5⟩ := pick_spec hpk2
        exact e5
      · rw [List.length_append, show row.length - (acc.length + [y].length) = m by show row.length - (acc.length + 1) = m; omega, ho, allN_put ndk rc hy m]
        congr 1
        funext z
        simp
      · show (match upd H3 l (.lst (acc.map V.str ++ [V.str y])) l with | some (.lst xs) => row.length - xs.length | _ => 0) < (match H2 l with | some (.lst xs) => row.length - xs.length | _ => 0)
        rw [upd_same, l3]
        show row.length - (acc.map V.str ++ [V.str y]).length < row.length - (acc.map V.str).length
        rw [List.length_append, List.length_map]
        show row.length - (acc.length + 1) < _
        omega
    · have ge : acc.length = row.length := by
        have := of_decide_eq_false (Bool.eq_false_iff.mpr c)
        omega
      rw [ge, Nat.sub_self] at ho
      have e0 : (allN ks' (barB ps row) 0 (prN ks' n)) = [[]] := rfl
      rw [ge, Nat.sub_self] at kl
      have k0 : k = 0 := by
        have : waysN ks' (barB ps row) 0 (prN ks' n) = 1 := rfl
        omega
      rw [e0, k0, hord] at ho
      have eo : order = acc := by
        have := Option.some.inj ho
        simpa using this
      subst eo
      exact ⟨_, rfl, q l H2 (s1.trans s3) nl l3⟩
  · rintro σ H1 Q1 Q2 imp ⟨a, e1, b, c, e2, h1, d, e3, e, f, e4, h2, i, j, e5, e6, k, e7, x⟩
    exact ⟨a, e1, b, c, e2, h1, d, e3, e, f, e4, h2, i, j, e5, e6, k, e7, imp _ _ x⟩
/-! ### nth_order, beyond them -/
theorem ok_nthX {C CN fI f : Addr} {fd fdI : FuncData} (T : TxtC K C) (TN : OwnK K mg "NoOrder" "LookupError" "LookupError.__new__" "LookupError.__init__" "LookupError" CN fI) (hnumber : PySem.W.findIn K (.ref CN) "number" = some none) (FI : L2.FnOk P w K mg base L2.CX0 1 fI fdI nINoOrder (spInit1 CN "number")) (bI : Binds K fdI nINoOrder []) (CC : CalN P w K mg base 7 "Count" C ["self", "friends", "row"] (spCI C)) (F : Fun K "nth_order" "nth_order" sNthO f fd) : FnOk P w K mg base (L2.CX P w) 9 f fd pNthO (spNthX CN) := by
  refine fokX F scNthO (fun vs H Q E h => ?_) (fun cdv A outer s H vs Q E hr h => ?_)
  · obtain ⟨a, r, i, ps, row, rfl, _⟩ := h
    rfl
  have hu := hu_of hr
  refine ⟨_, pss_cons (ps_set (i := 3) scNthO.nd rfl (.inl rfl) (pe_makeC CC hr (pa_cons (pv 0) (pa_cons (pv 1) pa_nil))))
    (pss_cons (ps_if (pt_not (pt_chain op_le op_lt pe_int (pv 2) (pe_dget hu (pe_fld (pv 3) rfl) pe_int (fun _ _ => rfl))))
      (pss_one (ps_raise rfl (takes_of rfl rfl rfl rfl) (pmk_made base_LE TN.O TN.iC TN.tI FI (hr.rm.mono (by decide)) bI pass0 rfl (by rfl) TN.g (pa_cons (pv 2) pa_nil))))
      pss_nil)
    pss_never), ?_⟩
  obtain ⟨a, r, i, ps, row, rfl, ha, hp, hrow, nd, hn, g0, hi, hout, q⟩ := h
  refine ⟨_, rfl, _, rfl, fun x dx nx ndx nex => ?_⟩
  have sM : Same H (upd (upd H dx (.own x)) x (.ins C dx [])) := fun b u z => by
    rw [upd_ne (ne_of_none z nx), upd_ne (ne_of_none z ndx)]
    exact z
  refine ⟨x, a, r, dx, ps, row, rfl, upd_same, ha.same sM, hp, hrow.same sM, nd, hn, g0, fun ks H1 s1' cA pm so => ⟨rfl, ?_⟩⟩
  have s1 : Same H H1 := made_same nx ndx s1'
  obtain ⟨D, E', W, kvs, cI, wu⟩ := cA
  obtain ⟨⟨dx', h1⟩, h2, h3, h4⟩ := id cI
  have gW := DGet.k (k := .inl ((0 : Nat) : Int)) h4
  rw [wu 0 0 .zero trivial, Nat.sub_zero, waysN_perm pm, pm.length_eq, waysN_congr (q := fun _ => false) row.length (fun x _ => by unfold prN; simp)] at gW
  refine ⟨_, rfl, _, _, rfl, rfl, _, rfl, ite2 (fun c => ?_) (fun c => ?_)⟩
  · refine ⟨_, rfl, x, C, dx', _, _, rfl, h1, T.cl, T.n3, fldsC_ways _ _ _, W, _, rfl, gW, _, _, rfl, rfl, _, rfl, ?_⟩
    have c0 := of_decide_eq_true c
    have no : decide (i < ((waysN row (barB ps row) row.length (fun _ => false) : Nat) : Int)) = false := decide_eq_false (by omega)
    refine ite2 (fun _ => ?_) (fun c2 => ?_)
    · skip
      refine ⟨_, rfl, (by show 1 ≤ 1000; decide), fun y hy => ⟨y, _, rfl, upd_same, .inl ⟨i, rfl, Nat.lt_trans (log2_40 hi) (by decide)⟩, fun d h1' h2' => ⟨rfl, .inr ⟨d, [("number", .int i)], upd_same, (upd_ne h2').trans upd_same, ?_, ?_⟩⟩⟩⟩
      · rw [upd_ne h2'] at h1'
        exact h1'
      · rw [upd_ne h2'] at h1'
        refine q d _ (fun b o' z => ?_) upd_same (s1.free h1')
        have nb1 : b ≠ d := ne_of_none z (s1.free h1')
        have nb2 : b ≠ y := ne_of_none z (s1.free hy)
        rw [upd_ne nb1, del_ne nb2, upd_ne nb2, upd_ne nb1, upd_ne nb2]
        exact s1 _ _ z
    · rw [no] at c2
      exact absurd rfl c2
  · refine ⟨_, rfl, iteT ?_⟩
    · skip
      refine ⟨_, rfl, (by show 1 ≤ 1000; decide), fun y hy => ⟨y, _, rfl, upd_same, .inl ⟨i, rfl, Nat.lt_trans (log2_40 hi) (by decide)⟩, fun d h1' h2' => ⟨rfl, .inr ⟨d, [("number", .int i)], upd_same, (upd_ne h2').trans upd_same, ?_, ?_⟩⟩⟩⟩
      · rw [upd_ne h2'] at h1'
        exact h1'
      · rw [upd_ne h2'] at h1'
        refine q d _ (fun b o' z => ?_) upd_same (s1.free h1')
        have nb1 : b ≠ d := ne_of_none z (s1.free h1')
        have nb2 : b ≠ y := ne_of_none z (s1.free hy)
        rw [upd_ne nb1, del_ne nb2, upd_ne nb2, upd_ne nb1, upd_ne nb2]
        exact s1 _ _ z
/-! ### number_of -//-! ### kept -/
abbrev sKept : Stmt := topS 7
abbrev nKept : List Str := ["thing"]
abbrev pKept : List Str := ["thing"]
theorem scKept : FnScope nKept pKept (defScope sKept) := ⟨rfl, rfl, rfl, by decide +kernel, rfl, by decide +kernel, by decide +kernel⟩
theorem ok_kept {f : Addr} {fd : FuncData} (B : Blt mg) (F : Fun K "kept" "kept" sKept f fd) : FnOk P w K mg base CX0 1 f fd pKept spKept := by
  refine fok F scKept (fun vs H Q E h => ?_) (fun cdv A outer s H vs Q E hr h => ?_)
  · obtain ⟨t, xs, rfl, _⟩ := h
    rfl
  have hu := hu_of hr
  refine ⟨_, pss_one (ps_ret (pe_ifExp (pt_val (pe_callB call_isi (by rfl) B.isinstance (by decide +kernel) (pa_cons (pv 0) (pa_cons (pe_bltn (v := .ty "list") (by rfl) B.list (by decide +kernel) rfl) pa_nil)))) (pe_callTy call_tupleF (by rfl) B.tuple (by decide +kernel) (pa_cons (pv 0) pa_nil)) (pv 0))), ?_⟩
  obtain ⟨t, xs, rfl, ht, q⟩ := h
  refine ⟨_, rfl, _, _, _, _, false, rfl, .ty _, TupX.ty (.inr ht), kit_ty (by decide +kernel), _, rfl, ite2 (fun c => nomatch c) (fun _ => ?_)⟩
  exact ⟨_, rfl, q⟩
/-! ### Stuck -/
abbrev sIStuck : Stmt := clsFn (topS 14) 0
abbrev nIStuck : List Str := ["self", "left"]
theorem scIStuck : FnScope nIStuck nIStuck (defScope sIStuck) := ⟨rfl, rfl, rfl, by decide +kernel, rfl, by decide +kernel, by decide +kernel⟩
theorem ok_iStuck {C f : Addr} {fd : FuncData} (T : OwnK K mg "Stuck" "RuntimeError" "RuntimeError.__new__" "RuntimeError.__init__" "RuntimeError" C f) (hleft : PySem.W.findIn K (.ref C) "left" = some none) (CK : Cal P w K mg base 1 "kept" ["thing"] spKept) (F : Fun K "__init__" "Stuck.__init__" sIStuck f fd) : FnOk P w K mg base CX0 2 f fd nIStuck (spInitT C "left") := by
  refine fok F scIStuck (fun vs H Q E h => ?_) (fun cdv A outer s H vs Q E hr h => ?_)
  · obtain ⟨a, t, xs, rfl, _⟩ := h
    rfl
  refine ⟨_, pss_cons (ps_expr (pe_baseinit base_RE (by rfl) T.nB PyProof.Rows.Boot.«RuntimeError» T.vB (pa_cons (pv 0) (pa_cons (pe_joined (.cons pe_str (.cons (pe_fmtD hr (pv 1)) .nil))) pa_nil))))
    (pss_one (ps_put base_RE (pv 0) (pe_cal CK hr (pa_cons (pv 1) pa_nil)))), ?_⟩
  obtain ⟨a, t, xs, rfl, ha, ht, okx, lx, q⟩ := h
  have e0 : (Str.empty).length ≤ 0 := Nat.le_refl _
  have l1 := fit_k e0 (c := "the row has no order: ") (m := 22) (by decide +kernel)
  have ft := names_fitT okx lx
  have ls := fit_shown ft
  have l2 := fit_k l1 (c := (strsTD xs).shown) ls
  refine ⟨_, rfl, _, rfl, fit_line l1 (by decide), _, rfl, t, _, rfl, dp_names ht, ft.sh, ft.nd, Nat.le_trans ft.dp (by decide), ft.fits (by decide), _, rfl, ?_, ?_⟩
  · rw [sizeLine_eq]
    omega
  refine ⟨a, C, _, rfl, (by show 1 ≤ 1000; decide), T.O, ha, ?_⟩
  exact ⟨_, rfl, t, xs, rfl, ht, _, rfl, a, C, rfl, T.O, hleft, .inl ⟨ha, fun dx h1 h2 => q dx h1 h2⟩⟩
/-! ### some_order, where there's none -/
theorem ok_someX {C fI f : Addr} {fd fdI : FuncData} (T : OwnK K mg "Stuck" "RuntimeError" "RuntimeError.__new__" "RuntimeError.__init__" "RuntimeError" C fI) (FI : FnOk P w K mg base CX0 2 fI fdI nIStuck (spInitT C "left")) (bI : Binds K fdI nIStuck []) (CG : Cal P w K mg base 5 "gone_and_left" ["friends", "row", "but"] (spGone K)) (F : Fun K "some_order" "some_order" sSomeO f fd) : FnOk P w K mg base (L2.CX P w) 6 f fd ["friends", "row"] (spSomeX C) := by
  refine fokX F scSomeO (fun vs H Q E h => ?_) (fun cdv A outer s H vs Q E hr h => ?_)
  · obtain ⟨a, r, ps, row, rfl, _⟩ := h
    rfl
  obtain ⟨a, r, ps, row, rfl, ha, hp, hrow, hd, hn, okr, g0, q⟩ := h
  refine ⟨_, pss_cons (ps_asg (pe_cal CG hr (pa_cons (pv 0) (pa_cons (pv 1) (pa_cons (pe_tupF pa_nil) pa_nil)))) (pg_tup rfl (pgs_cons (pg_name (i := 2) scSomeO.nd rfl (.inl rfl)) (pgs_cons (pg_name (i := 3) scSomeO.nd rfl (.inl rfl)) pgs_nil))))
    (pss_cons (ps_if (pt_truth (pv 3) (by intro _; rfl)) (pss_one (ps_raise rfl (takes_of rfl rfl rfl rfl) (pmk_madeR base_RE T.O T.iC T.tI FI (hr.mono (by decide)) bI pass0 rfl (by rfl) T.g (pa_cons (pv 3) pa_nil)))) pss_nil)
    pss_never), ?_⟩
  refine ⟨_, rfl, _, rfl, (by show 0 ≤ sizeLine; decide), fun p0 H0 s0 n0 t0 => ?_⟩
  refine ⟨a, r, p0, ps, row, [], rfl, ha.same s0, hp, hrow.same s0, hd, by omega, (fun H' s => .inr (t0.same s).sq), fun T' g t H1 s1 ng eT eg et => ?_⟩
  refine ⟨T', _, rfl, .inl (.inl eT), rfl, _, _, rfl, _, _, rfl, rfl, ?_⟩
  have s01 := s0.trans s1
  refine ⟨.ref t, rfl, _, .inr (.inl ⟨_, et.sq, rfl⟩), ?_⟩
  have ne : (!((goneR ps [] row).map V.str).isEmpty) = true := by
    cases e : goneR ps [] row with
    | nil => exact absurd e g0
    | cons x xs => rfl
  refine ite2 (fun _ => ?_) (fun c => absurd ne c)
  have sub : ∀ x ∈ goneR ps [] row, x ∈ row := fun x hx => goneR_sub.subset hx
  refine ⟨_, rfl, (by show 1 ≤ 1000; decide), fun y hy => ⟨y, t, _, rfl, upd_same, et.same (same_upd hy), fun x hx => okr x (sub x hx), Nat.le_trans goneR_sub.length_le (by omega), fun d h1' h2' => ⟨rfl, .inr ⟨d, [("left", .ref t)], upd_same, (upd_ne h2').trans upd_same, ?_, ?_⟩⟩⟩⟩
  · rw [upd_ne h2'] at h1'
    exact h1'
  · rw [upd_ne h2'] at h1'
    have sF : Same H (upd (del (upd (upd (upd H1 y (exo y C none)) d (exd d [("left", V.ref t)])) y (exo y C (some d))) y) d (.xd [("left", V.ref t)])) := fun b o' z => by
      have nb1 : b ≠ d := ne_of_none z (s01.free h1')
      have nb2 : b ≠ y := ne_of_none z (s01.free hy)
      rw [upd_ne nb1, del_ne nb2, upd_ne nb2, upd_ne nb1, upd_ne nb2]
      exact s01 _ _ z
    refine q d t _ sF upd_same (s01.free h1') ?_
    obtain ⟨ob, k1, k2⟩ := et
    have nt1 : t ≠ d := ne_of_none k2 h1'
    have nt2 : t ≠ y := ne_of_none k2 hy
    refine ⟨ob, k1, ?_⟩
    rw [upd_ne nt1, del_ne nt2, upd_ne nt2, upd_ne nt1, upd_ne nt2]
    exact k2
/-! ### Count, how_many, where there's no order -/
theorem ok_cIX {C CS f : Addr} {fd : FuncData} (CSo : CalX P w K mg base 6 "some_order" ["friends", "row"] (spSomeX CS)) (F : Fun K "__init__" "Count.__init__" sCI f fd) : FnOk P w K mg base (L2.CX P w) 7 f fd pCI (spCIX C CS) := by
  refine fokX F scCI (fun vs H Q E h => ?_) (fun cdv A outer s H vs Q E hr h => ?_)
  · obtain ⟨p, a, r, ps, row, rfl, _⟩ := h
    rfl
  refine ⟨_, pss_cons (ps_expr (pe_calX CSo hr (takes_of rfl rfl rfl rfl) (pa_cons (pv 1) (pa_cons (pv 2) pa_nil)))) pss_never, ?_⟩
  obtain ⟨p, a, r, ps, row, rfl, ha, hpl, hrow, nd, hn, okr, g0, q⟩ := h
  exact ⟨_, rfl, _, rfl, a, r, ps, row, rfl, ha, hpl, hrow, nd, hn, okr, g0, q⟩
theorem ok_hMX {C CS f : Addr} {fd : FuncData} (CC : CalNX P w K mg base 7 "Count" C ["self", "friends", "row"] (spCIX C CS)) (F : Fun K "how_many" "how_many" sHM f fd) : FnOk P w K mg base (L2.CX P w) 9 f fd pHM (spSomeX CS) := by
  refine fokX F scHM (fun vs H Q E h => ?_) (fun cdv A outer s H vs Q E hr h => ?_)
  · obtain ⟨a, r, ps, row, rfl, _⟩ := h
    rfl
  have hu := hu_of hr
  refine ⟨_, pss_one (ps_ret (pe_dget hu (pe_fld (pe_makeX CC hr (takes_of rfl rfl rfl rfl) (pa_cons (pv 0) (pa_cons (pv 1) pa_nil))) rfl) pe_int (fun _ _ => rfl))), ?_⟩
  obtain ⟨a, r, ps, row, rfl, ha, hp, hrow, nd, hn, okr, g0, q⟩ := h
  refine ⟨_, rfl, _, rfl, fun x dx nx ndx nex => ?_⟩
  have sM : Same H (upd (upd H dx (.own x)) x (.ins C dx [])) := fun b u z => by
    rw [upd_ne (ne_of_none z nx), upd_ne (ne_of_none z ndx)]
    exact z
  refine ⟨x, a, r, ps, row, rfl, ha.same sM, hp, hrow.same sM, nd, hn, okr, g0, fun d t H' s h1 h2 h3 => q d t H' (sM.trans s) h1 (sM.free h2) h3⟩
/-! ### came_behind, where there is no order -/
theorem ok_xCameB {CS f : Addr} {fd : FuncData} (B : Blt mg) (CSo : CalX P w K mg base 6 "some_order" ["friends", "row"] (spSomeX CS)) (F : Fun K "came_behind" "came_behind" sCameB f fd) : FnOk P w K mg base (L2.CX P w) 7 f fd ["friends", "row"] (spStk 0 CS) := by
  refine fokX F scCameB (fun vs H Q E h => ?_) (fun cdv A outer s H vs Q E hr h => ?_)
  · obtain ⟨a, r, ws, ps, row, rfl, hl, _⟩ := h
    show ws.length + 2 = _
    rw [hl]
    rfl
  have hu := hu_of hr
  refine ⟨_, pss_cons (ps_set (i := 2) scCameB.nd rfl (.inl rfl) (pe_calX CSo hr (takes_of rfl rfl rfl rfl) (pa_cons (pv 0) (pa_cons (pv 1) pa_nil)))) pss_never, ?_⟩
  obtain ⟨a, r, ws, ps, row, rfl, hl, ha, hp, hrow, nd, hn, okr, g0, q⟩ := h
  obtain rfl : ws = [] := List.length_eq_zero_iff.mp hl
  exact ⟨_, rfl, _, rfl, a, r, ps, row, rfl, ha, hp, hrow, nd, hn, okr, g0, q⟩
/-! ### hung, where there is no order -/
theorem ok_xHung {CS f : Addr} {fd : FuncData} (B : Blt mg) (CSo : CalX P w K mg base 6 "some_order" ["friends", "row"] (spSomeX CS)) (F : Fun K "hung" "hung" sHung f fd) : FnOk P w K mg base (L2.CX P w) 7 f fd ["friends", "row"] (spStk 0 CS) := by
  refine fokX F scHung (fun vs H Q E h => ?_) (fun cdv A outer s H vs Q E hr h => ?_)
  · obtain ⟨a, r, ws, ps, row, rfl, hl, _⟩ := h
    show ws.length + 2 = _
    rw [hl]
    rfl
  have hu := hu_of hr
  refine ⟨_, pss_cons (ps_expr (pe_calX CSo hr (takes_of rfl rfl rfl rfl) (pa_cons (pv 0) (pa_cons (pv 1) pa_nil)))) pss_never, ?_⟩
  obtain ⟨a, r, ws, ps, row, rfl, hl, ha, hp, hrow, nd, hn, okr, g0, q⟩ := h
  obtain rfl : ws = [] := List.length_eq_zero_iff.mp hl
  exact ⟨_, rfl, _, rfl, a, r, ps, row, rfl, ha, hp, hrow, nd, hn, okr, g0, q⟩
/-! ### earliest, where there is no order -/
theorem ok_xErl {CS f : Addr} {fd : FuncData} (B : Blt mg) (CCb : CalX P w K mg base 7 "came_behind" ["friends", "row"] (spStk 0 CS)) (CNa : Cal P w K mg base 1 "needed_ahead" ["behind", "who"] spNeeded) (F : Fun K "earliest" "earliest" sErl f fd) : FnOk P w K mg base (L2.CX P w) 8 f fd pErl (spStk 1 CS) := by
  refine fokX F scErl (fun vs H Q E h => ?_) (fun cdv A outer s H vs Q E hr h => ?_)
  · obtain ⟨a, r, ws, ps, row, rfl, hl, _⟩ := h
    show ws.length + 2 = _
    rw [hl]
    rfl
  have hu := hu_of hr
  refine ⟨_, pss_one (ps_ret (pe_callB call_len_seq (by rfl) B.len PySem.boot_len (pa_cons (pe_cal CNa hr (pa_cons (pe_calX CCb hr (takes_of rfl rfl rfl rfl) (pa_cons (pv 0) (pa_cons (pv 1) pa_nil))) (pa_cons (pv 2) pa_nil))) pa_nil))), ?_⟩
  obtain ⟨a, r, ws, ps, row, rfl, hl, ha, hp, hrow, nd, hn, okr, g0, q⟩ := h
  obtain ⟨w1, rfl⟩ : ∃ w1, ws = [w1] := match ws, hl with | [w1], _ => ⟨w1, rfl⟩
  exact ⟨_, rfl, _, rfl, a, r, [], ps, row, rfl, rfl, ha, hp, hrow, nd, hn, okr, g0, q⟩
/-! ### latest, where there is no order -/
theorem ok_xLat {CS f : Addr} {fd : FuncData} (B : Blt mg) (CCb : CalX P w K mg base 7 "came_behind" ["friends", "row"] (spStk 0 CS)) (F : Fun K "latest" "latest" sLat f fd) : FnOk P w K mg base (L2.CX P w) 8 f fd pLat (spStk 1 CS) := by
  refine fokX F scLat (fun vs H Q E h => ?_) (fun cdv A outer s H vs Q E hr h => ?_)
  · obtain ⟨a, r, ws, ps, row, rfl, hl, _⟩ := h
    show ws.length + 2 = _
    rw [hl]
    rfl
  have hu := hu_of hr
  refine ⟨_, pss_one (ps_ret (pe_op op_sub (pe_op op_sub (pe_callB call_len_seq (by rfl) B.len PySem.boot_len (pa_cons (pv 1) pa_nil)) pe_int) (pe_callB call_lenD (by rfl) B.len PySem.boot_len (pa_cons (pe_dget hu (pe_calX CCb hr (takes_of rfl rfl rfl rfl) (pa_cons (pv 0) (pa_cons (pv 1) pa_nil))) (pv 2) (fun _ _ => rfl)) pa_nil)))), ?_⟩
  obtain ⟨a, r, ws, ps, row, rfl, hl, ha, hp, hrow, nd, hn, okr, g0, q⟩ := h
  obtain ⟨w1, rfl⟩ : ∃ w1, ws = [w1] := match ws, hl with | [w1], _ => ⟨w1, rfl⟩
  exact ⟨_, rfl, r, _, rfl, hrow.sq, _, _, rfl, rfl, _, rfl, _, rfl, a, r, [], ps, row, rfl, rfl, ha, hp, hrow, nd, hn, okr, g0, q⟩
/-! ### early_order, where there is no order -/
theorem ok_xEOr {CS f : Addr} {fd : FuncData} (B : Blt mg) (CCb : CalX P w K mg base 7 "came_behind" ["friends", "row"] (spStk 0 CS)) (CNa : Cal P w K mg base 1 "needed_ahead" ["behind", "who"] spNeeded) (F : Fun K "early_order" "early_order" sEOr f fd) : FnOk P w K mg base (L2.CX P w) 8 f fd pEOr (spStk 1 CS) := by
  refine fokX F scEOr (fun vs H Q E h => ?_) (fun cdv A outer s H vs Q E hr h => ?_)
  · obtain ⟨a, r, ws, ps, row, rfl, hl, _⟩ := h
    show ws.length + 2 = _
    rw [hl]
    rfl
  have hu := hu_of hr
  refine ⟨_, pss_cons (ps_set (i := 3) scEOr.nd rfl (.inr rfl) (pe_cal CNa hr (pa_cons (pe_calX CCb hr (takes_of rfl rfl rfl rfl) (pa_cons (pv 0) (pa_cons (pv 1) pa_nil))) (pa_cons (pv 2) pa_nil)))) pss_never, ?_⟩
  obtain ⟨a, r, ws, ps, row, rfl, hl, ha, hp, hrow, nd, hn, okr, g0, q⟩ := h
  obtain ⟨w1, rfl⟩ : ∃ w1, ws = [w1] := match ws, hl with | [w1], _ => ⟨w1, rfl⟩
  exact ⟨_, rfl, _, rfl, a, r, [], ps, row, rfl, rfl, ha, hp, hrow, nd, hn, okr, g0, q⟩
/-! ### late_order, where there is no order -/
theorem ok_xLOr {CS f : Addr} {fd : FuncData} (B : Blt mg) (CCb : CalX P w K mg base 7 "came_behind" ["friends", "row"] (spStk 0 CS)) (F : Fun K "late_order" "late_order" sLOr f fd) : FnOk P w K mg base (L2.CX P w) 8 f fd pLOr (spStk 1 CS) := by
  refine fokX F scLOr (fun vs H Q E h => ?_) (fun cdv A outer s H vs Q E hr h => ?_)
  · obtain ⟨a, r, ws, ps, row, rfl, hl, _⟩ := h
    show ws.length + 2 = _
    rw [hl]
    rfl
  have hu := hu_of hr
  refine ⟨_, pss_cons (ps_set (i := 3) scLOr.nd rfl (.inr rfl) (pe_dget hu (pe_calX CCb hr (takes_of rfl rfl rfl rfl) (pa_cons (pv 0) (pa_cons (pv 1) pa_nil))) (pv 2) (fun _ _ => rfl))) pss_never, ?_⟩
  obtain ⟨a, r, ws, ps, row, rfl, hl, ha, hp, hrow, nd, hn, okr, g0, q⟩ := h
  obtain ⟨w1, rfl⟩ : ∃ w1, ws = [w1] := match ws, hl with | [w1], _ => ⟨w1, rfl⟩
  exact ⟨_, rfl, _, rfl, a, r, [], ps, row, rfl, rfl, ha, hp, hrow, nd, hn, okr, g0, q⟩
/-! ### came_ahead, where there is no order -/
theorem ok_xAhead {CS f : Addr} {fd : FuncData} (B : Blt mg) (CCb : CalX P w K mg base 7 "came_behind" ["friends", "row"] (spStk 0 CS)) (F : Fun K "came_ahead" "came_ahead" sAhead f fd) : FnOk P w K mg base (L2.CX P w) 8 f fd pAhead (spStk 0 CS) := by
  refine fokX F scAhead (fun vs H Q E h => ?_) (fun cdv A outer s H vs Q E hr h => ?_)
  · obtain ⟨a, r, ws, ps, row, rfl, hl, _⟩ := h
    show ws.length + 2 = _
    rw [hl]
    rfl
  have hu := hu_of hr
  refine ⟨_, pss_cons (ps_set (i := 2) scAhead.nd rfl (.inr rfl) (pe_calX CCb hr (takes_of rfl rfl rfl rfl) (pa_cons (pv 0) (pa_cons (pv 1) pa_nil)))) pss_never, ?_⟩
  obtain ⟨a, r, ws, ps, row, rfl, hl, ha, hp, hrow, nd, hn, okr, g0, q⟩ := h
  obtain rfl : ws = [] := List.length_eq_zero_iff.mp hl
  exact ⟨_, rfl, _, rfl, a, r, [], ps, row, rfl, rfl, ha, hp, hrow, nd, hn, okr, g0, q⟩
/-! ### chain_of, where there is no order -/
theorem ok_xChain {CS f : Addr} {fd : FuncData} (B : Blt mg) (CCb : CalX P w K mg base 7 "came_behind" ["friends", "row"] (spStk 0 CS)) (F : Fun K "chain_of" "chain_of" sChain f fd) : FnOk P w K mg base (L2.CX P w) 8 f fd pChain (spStk 2 CS) := by
  refine fokX F scChain (fun vs H Q E h => ?_) (fun cdv A outer s H vs Q E hr h => ?_)
  · obtain ⟨a, r, ws, ps, row, rfl, hl, _⟩ := h
    show ws.length + 2 = _
    rw [hl]
    rfl
  have hu := hu_of hr
  refine ⟨_, pss_cons (ps_set (i := 4) scChain.nd rfl (.inl rfl) (pe_calX CCb hr (takes_of rfl rfl rfl rfl) (pa_cons (pv 0) (pa_cons (pv 1) pa_nil)))) pss_never, ?_⟩
  obtain ⟨a, r, ws, ps, row, rfl, hl, ha, hp, hrow, nd, hn, okr, g0, q⟩ := h
  obtain ⟨w1, w2, rfl⟩ : ∃ w1 w2, ws = [w1, w2] := match ws, hl with | [w1, w2], _ => ⟨w1, w2, rfl⟩
  exact ⟨_, rfl, _, rfl, a, r, [], ps, row, rfl, rfl, ha, hp, hrow, nd, hn, okr, g0, q⟩
/-! ### put_back_bounds, where there is no order -/
theorem ok_xBounds {CS f : Addr} {fd : FuncData} (B : Blt mg) (CCb : CalX P w K mg base 7 "came_behind" ["friends", "row"] (spStk 0 CS)) (F : Fun K "put_back_bounds" "put_back_bounds" sBounds f fd) : FnOk P w K mg base (L2.CX P w) 8 f fd ["friends", "row"] (spStk 0 CS) := by
  refine fokX F scBounds (fun vs H Q E h => ?_) (fun cdv A outer s H vs Q E hr h => ?_)
  · obtain ⟨a, r, ws, ps, row, rfl, hl, _⟩ := h
    show ws.length + 2 = _
    rw [hl]
    rfl
  have hu := hu_of hr
  refine ⟨_, pss_cons (ps_set (i := 2) scBounds.nd rfl (.inr rfl) (pe_calX CCb hr (takes_of rfl rfl rfl rfl) (pa_cons (pv 0) (pa_cons (pv 1) pa_nil)))) pss_never, ?_⟩
  obtain ⟨a, r, ws, ps, row, rfl, hl, ha, hp, hrow, nd, hn, okr, g0, q⟩ := h
  obtain rfl : ws = [] := List.length_eq_zero_iff.mp hl
  exact ⟨_, rfl, _, rfl, a, r, [], ps, row, rfl, rfl, ha, hp, hrow, nd, hn, okr, g0, q⟩
/-! ### nth_order, where there is no order -/
theorem ok_xNth {C CS f : Addr} {fd : FuncData} (CC : CalNX P w K mg base 7 "Count" C ["self", "friends", "row"] (spCIX C CS)) (F : Fun K "nth_order" "nth_order" sNthO f fd) : FnOk P w K mg base (L2.CX P w) 9 f fd pNthO (spStk 1 CS) := by
  refine fokX F scNthO (fun vs H Q E h => ?_) (fun cdv A outer s H vs Q E hr h => ?_)
  · obtain ⟨a, r, ws, ps, row, rfl, hl, _⟩ := h
    show ws.length + 2 = _
    rw [hl]
    rfl
  have hu := hu_of hr
  refine ⟨_, pss_cons (ps_set (i := 3) scNthO.nd rfl (.inl rfl) (pe_makeX CC hr (takes_of rfl rfl rfl rfl) (pa_cons (pv 0) (pa_cons (pv 1) pa_nil)))) pss_never, ?_⟩
  obtain ⟨a, r, ws, ps, row, rfl, hl, ha, hp, hrow, nd, hn, okr, g0, q⟩ := h
  obtain ⟨w1, rfl⟩ : ∃ w1, ws = [w1] := match ws, hl with | [w1], _ => ⟨w1, rfl⟩
  refine ⟨_, rfl, _, rfl, fun x dx nx ndx nex => ?_⟩
  have sM : Same H (upd (upd H dx (.own x)) x (.ins C dx [])) := fun b u z => by
    rw [upd_ne (ne_of_none z nx), upd_ne (ne_of_none z ndx)]
    exact z
  exact ⟨x, a, r, ps, row, rfl, ha.same sM, hp, hrow.same sM, nd, hn, okr, g0, fun d t H' s h1 h2 h3 => q d t H' (sM.trans s) h1 (sM.free h2) h3⟩
/-! ### _law_asked -/
abbrev sAsk17 : Stmt := topS 54
abbrev nAsk17 : List Str := ["_law_pals_here", "_law_stand", "_law_way", "_law_name", "_law_last", "_law_number"]
theorem scAsk17 : FnScope nAsk17 nAsk17 (defScope sAsk17) := ⟨rfl, rfl, rfl, by decide +kernel, rfl, by decide +kernel, by decide +kernel⟩
def orX (n : Nat) (C : Addr) (sp : Sp) : Sp := fun vs H Q E => sp vs H Q E ∨ spStk n C vs H Q E
theorem ok_ask17 {CS f : Addr} {fd : FuncData} (CAhd : CalX P w K mg base 8 "came_ahead" ["friends", "row"] (orX 0 CS spAhead)) (CChn : CalX P w K mg base 8 "chain_of" ["friends", "row", "one", "other"] (orX 2 CS spChain)) (CErl : CalX P w K mg base 8 "earliest" ["friends", "row", "who"] (orX 1 CS spErl)) (CEOr : CalX P w K mg base 8 "early_order" ["friends", "row", "who"] (orX 1 CS spEOr)) (CHM : CalX P w K mg base 9 "how_many" ["friends", "row"] (fun vs H Q E => spHM vs H Q E ∨ spSomeX CS vs H Q E)) (CHu : CalX P w K mg base 7 "hung" ["friends", "row"] (orX 0 CS spHung)) (CLOr : CalX P w K mg base 8 "late_order" ["friends", "row", "who"] (orX 1 CS spLOr)) (CLat : CalX P w K mg base 8 "latest" ["friends", "row", "who"] (orX 1 CS spLat)) (CNth : CalX P w K mg base 9 "nth_order" ["friends", "row", "number"] (orX 1 CS spNthO)) (CBb : CalX P w K mg base 8 "put_back_bounds" ["friends", "row"] (orX 0 CS spBounds)) (F : Fun K "_law_asked" "_law_asked" sAsk17 f fd) : FnOk P w K mg base (L2.CX P w) 10 f fd nAsk17 (spAsk17 CS) := by
  refine fokX F scAsk17 (fun vs H Q E h => ?_) (fun cdv A outer s H vs Q E hr h => ?_)
  · obtain ⟨a, t, way, i, ps, row, x, y, rfl, _⟩ := h
    rfl
  have hu := hu_of hr
  refine ⟨_, pss_cons (ps_if (pt_cmpR op_lt (pv 2) pe_int (nomark _)) (pss_one (ps_ret (pe_ifExp (pt_cmpR op_eq (pv 2) pe_int (nomark _)) (pe_calX CHM hr (takes_of rfl rfl rfl rfl) (pa_cons (pv 0) (pa_cons (pv 1) pa_nil))) (pe_calX CNth hr (takes_of rfl rfl rfl rfl) (pa_cons (pv 0) (pa_cons (pv 1) (pa_cons (pv 5) pa_nil))))))) pss_nil)
    (pss_cons (ps_if (pt_cmpR op_lt (pv 2) pe_int (nomark _)) (pss_one (ps_ret (pe_ifExp (pt_cmpR op_eq (pv 2) pe_int (nomark _)) (pe_calX CErl hr (takes_of rfl rfl rfl rfl) (pa_cons (pv 0) (pa_cons (pv 1) (pa_cons (pv 3) pa_nil)))) (pe_calX CLat hr (takes_of rfl rfl rfl rfl) (pa_cons (pv 0) (pa_cons (pv 1) (pa_cons (pv 3) pa_nil))))))) pss_nil)
    (pss_cons (ps_if (pt_cmpR op_lt (pv 2) pe_int (nomark _)) (pss_one (ps_ret (pe_ifExp (pt_cmpR op_eq (pv 2) pe_int (nomark _)) (pe_calX CEOr hr (takes_of rfl rfl rfl rfl) (pa_cons (pv 0) (pa_cons (pv 1) (pa_cons (pv 3) pa_nil)))) (pe_calX CLOr hr (takes_of rfl rfl rfl rfl) (pa_cons (pv 0) (pa_cons (pv 1) (pa_cons (pv 3) pa_nil))))))) pss_nil)
    (pss_cons (ps_if (pt_cmpR op_lt (pv 2) pe_int (nomark _)) (pss_one (ps_ret (pe_ifExp (pt_cmpR op_eq (pv 2) pe_int (nomark _)) (pe_calX CAhd hr (takes_of rfl rfl rfl rfl) (pa_cons (pv 0) (pa_cons (pv 1) pa_nil))) (pe_calX CChn hr (takes_of rfl rfl rfl rfl) (pa_cons (pv 0) (pa_cons (pv 1) (pa_cons (pv 3) (pa_cons (pv 4) pa_nil)))))))) pss_nil)
    (pss_one (ps_ret (pe_ifExp (pt_cmpR op_eq (pv 2) pe_int (nomark _)) (pe_calX CHu hr (takes_of rfl rfl rfl rfl) (pa_cons (pv 0) (pa_cons (pv 1) pa_nil))) (pe_calX CBb hr (takes_of rfl rfl rfl rfl) (pa_cons (pv 0) (pa_cons (pv 1) pa_nil))))))))), ?_⟩
  obtain ⟨a, t, way, i, ps, row, x, y, rfl, ha, hp, hpo, irr, ht, nd, hn, okr, hx, hy, h7, hw, hi0, hib, qe, qx⟩ := h
  have lt : ∀ n : Nat, decide (((way : Nat) : Int) < ((n : Nat) : Int)) = decide (way < n) := fun n => decide_eq_decide.mpr (by omega)
  by_cases g0 : goneR ps [] row = []
  · have q := qe g0
    obtain ⟨ks, so⟩ := sort_has row
    have oo := gone_order irr nd g0
    have mo := (ord_of irr nd so).mpr oo
    have pos : 0 < (ordN ps row ks).length := List.length_pos_of_mem mo
    obtain ⟨o0, ho0⟩ : ∃ o0, (ordN ps row ks)[0]? = some o0 := ⟨_, List.getElem?_eq_getElem pos⟩
    obtain rfl := hi0 g0
    refine ⟨_, rfl, _, _, rfl, rfl, _, rfl, ite2 (fun c => ?_) (fun _ => ?_)⟩
    · refine ⟨_, rfl, rfl, _, rfl, ite2 (fun _ => ?_) (fun _ => ?_)⟩
      · exact ⟨_, rfl, _, rfl, .inl ⟨a, t, ps, row, rfl, ha, hp, .inl ht, nd, hn, g0, fun H1 s1 => q _ H1 s1⟩⟩
      · exact ⟨_, rfl, _, rfl, _, rfl, .inl ⟨a, t, 0, ps, row, ks, o0, rfl, ha, hp, .inl ht, nd, hn, g0, so, ho0, fun l H1 s1 _ _ => q _ H1 s1⟩⟩
    refine ⟨_, rfl, _, _, rfl, rfl, _, rfl, ite2 (fun c => ?_) (fun _ => ?_)⟩
    · refine ⟨_, rfl, rfl, _, rfl, ite2 (fun _ => ?_) (fun _ => ?_)⟩
      · exact ⟨_, rfl, _, rfl, _, rfl, .inl ⟨a, t, ps, row, x, rfl, ha, hp, irr, .inl ht, nd, by omega, g0, hx, fun H1 s1 => q _ H1 s1⟩⟩
      · exact ⟨_, rfl, _, rfl, _, rfl, .inl ⟨a, t, ps, row, x, rfl, ha, hp, irr, .inl ht, nd, by omega, g0, hx, fun H1 s1 => q _ H1 s1⟩⟩
    refine ⟨_, rfl, _, _, rfl, rfl, _, rfl, ite2 (fun c => ?_) (fun _ => ?_)⟩
    · refine ⟨_, rfl, rfl, _, rfl, ite2 (fun _ => ?_) (fun _ => ?_)⟩
      · exact ⟨_, rfl, _, rfl, _, rfl, .inl ⟨a, t, ps, row, x, rfl, ha, hp, irr, .inl ht, nd, by omega, g0, hx, fun p H1 s1 _ _ => q _ H1 s1⟩⟩
      · exact ⟨_, rfl, _, rfl, _, rfl, .inl ⟨a, t, ps, row, x, rfl, ha, hp, irr, .inl ht, nd, by omega, g0, hx, fun p H1 s1 _ _ => q _ H1 s1⟩⟩
    refine ⟨_, rfl, _, _, rfl, rfl, _, rfl, ite2 (fun c => ?_) (fun _ => ?_)⟩
    · refine ⟨_, rfl, rfl, _, rfl, ite2 (fun _ => ?_) (fun _ => ?_)⟩
      · exact ⟨_, rfl, _, rfl, .inl ⟨a, t, ps, row, rfl, ha, hp, irr, .inl ht, nd, by omega, g0, fun p bs H1 s1 _ _ _ _ _ => q _ H1 s1⟩⟩
      · exact ⟨_, rfl, _, rfl, _, rfl, _, rfl, .inl ⟨a, t, ps, row, x, y, rfl, ha, hp, irr, .inl ht, nd, by omega, g0, hx, hy, fun _ H1 s1 => q _ H1 s1, fun _ p bs H1 s1 _ _ _ _ _ _ _ => q _ H1 s1⟩⟩
    refine ⟨_, rfl, rfl, _, rfl, ite2 (fun _ => ?_) (fun _ => ?_)⟩
    · exact ⟨_, rfl, _, rfl, .inl ⟨a, t, ps, row, rfl, ha, hp, .inl ht, nd, by omega, g0, fun p qs H1 s1 _ _ _ _ => q _ H1 s1⟩⟩
    · exact ⟨_, rfl, _, rfl, .inl ⟨a, t, ps, row, rfl, ha, hp, irr, .inl ht, nd, by omega, g0, fun p qs H1 s1 _ _ _ _ => q _ H1 s1⟩⟩
  · have q := qx g0
    refine ⟨_, rfl, _, _, rfl, rfl, _, rfl, ite2 (fun c => ?_) (fun _ => ?_)⟩
    · refine ⟨_, rfl, rfl, _, rfl, ite2 (fun _ => ?_) (fun _ => ?_)⟩
      · exact ⟨_, rfl, _, rfl, .inr ⟨a, t, ps, row, rfl, ha, hp, .inl ht, nd, by omega, okr, g0, q⟩⟩
      · exact ⟨_, rfl, _, rfl, _, rfl, .inr ⟨a, t, _, ps, row, rfl, rfl, ha, hp, .inl ht, nd, by omega, okr, g0, q⟩⟩
    refine ⟨_, rfl, _, _, rfl, rfl, _, rfl, ite2 (fun c => ?_) (fun _ => ?_)⟩
    · refine ⟨_, rfl, rfl, _, rfl, ite2 (fun _ => ?_) (fun _ => ?_)⟩
      · exact ⟨_, rfl, _, rfl, _, rfl, .inr ⟨a, t, _, ps, row, rfl, rfl, ha, hp, .inl ht, nd, by omega, okr, g0, q⟩⟩
      · exact ⟨_, rfl, _, rfl, _, rfl, .inr ⟨a, t, _, ps, row, rfl, rfl, ha, hp, .inl ht, nd, by omega, okr, g0, q⟩⟩
    refine ⟨_, rfl, _, _, rfl, rfl, _, rfl, ite2 (fun c => ?_) (fun _ => ?_)⟩
    · refine ⟨_, rfl, rfl, _, rfl, ite2 (fun _ => ?_) (fun _ => ?_)⟩
      · exact ⟨_, rfl, _, rfl, _, rfl, .inr ⟨a, t, _, ps, row, rfl, rfl, ha, hp, .inl ht, nd, by omega, okr, g0, q⟩⟩
      · exact ⟨_, rfl, _, rfl, _, rfl, .inr ⟨a, t, _, ps, row, rfl, rfl, ha, hp, .inl ht, nd, by omega, okr, g0, q⟩⟩
    refine ⟨_, rfl, _, _, rfl, rfl, _, rfl, ite2 (fun c => ?_) (fun _ => ?_)⟩
    · refine ⟨_, rfl, rfl, _, rfl, ite2 (fun _ => ?_) (fun _ => ?_)⟩
      · exact ⟨_, rfl, _, rfl, .inr ⟨a, t, _, ps, row, rfl, rfl, ha, hp, .inl ht, nd, by omega, okr, g0, q⟩⟩
      · exact ⟨_, rfl, _, rfl, _, rfl, _, rfl, .inr ⟨a, t, _, ps, row, rfl, rfl, ha, hp, .inl ht, nd, by omega, okr, g0, q⟩⟩
    refine ⟨_, rfl, rfl, _, rfl, ite2 (fun _ => ?_) (fun _ => ?_)⟩
    · exact ⟨_, rfl, _, rfl, .inr ⟨a, t, _, ps, row, rfl, rfl, ha, hp, .inl ht, nd, by omega, okr, g0, q⟩⟩
    · exact ⟨_, rfl, _, rfl, .inr ⟨a, t, _, ps, row, rfl, rfl, ha, hp, .inl ht, nd, by omega, okr, g0, q⟩⟩
/-! ### _law_left -/
abbrev sLeftL : Stmt := topS 52
abbrev nLeft17 : List Str := ["_law_pals_here", "_law_stand", "_law_spot"]
abbrev pLeft17 : List Str := ["_law_pals_here", "_law_stand"]
theorem scLeft17 : FnScope nLeft17 pLeft17 (defScope sLeftL) := ⟨rfl, rfl, rfl, by decide +kernel, rfl, by decide +kernel, by decide +kernel⟩
theorem ok_left17 {f : Addr} {fd : FuncData} (B : Blt mg) (CCo : Cal P w K mg base 2 "_law_come" ["_law_pals_here", "_law_stand", "_law_name"] spCome) (F : Fun K "_law_left" "_law_left" sLeftL f fd) : FnOk P w K mg base CX0 3 f fd pLeft17 spLeft17 := by
  refine fok F scLeft17 (fun vs H Q E h => ?_) (fun cdv A outer s H vs Q E hr h => ?_)
  · obtain ⟨a, t, ps, row, rfl, _⟩ := h
    rfl
  have hu := hu_of hr
  refine ⟨_, pss_cons (ps_set (i := 2) scLeft17.nd rfl (.inl rfl) (pe_op op_sub (pe_callB call_len_seq (by rfl) B.len PySem.boot_len (pa_cons (pv 1) pa_nil)) pe_int))
    (pss_cons (ps_while PassesOwn.never (pt_cmpR op_ge (pv 2) pe_int (nomark _))
      (pss_cons (ps_if (pt_cmpR (op_eqT hr.units) (pe_cal CCo hr (pa_cons (pv 0) (pa_cons (pe_op op_catM (pe_slice sl_tupM (pv 1) po_none (po_some (pv 2))) (pe_slice sl_tupM (pv 1) (po_some (pe_op op_add (pv 2) pe_int)) po_none)) (pa_cons (pe_ix ix_tup (pv 1) (pv 2) (fun _ _ => rfl)) pa_nil)))) (pv 1) (nomark _))
          (pss_cons (ps_set (i := 1) scLeft17.nd rfl (.inl rfl) (pe_op op_catM (pe_slice sl_tupM (pv 1) po_none (po_some (pv 2))) (pe_slice sl_tupM (pv 1) (po_some (pe_op op_add (pv 2) pe_int)) po_none)))
            (pss_one (ps_set (i := 2) scLeft17.nd rfl (.inl rfl) (pe_callB call_len_seq (by rfl) B.len PySem.boot_len (pa_cons (pv 1) pa_nil)))))
          pss_nil)
        (pss_one (ps_set (i := 2) scLeft17.nd rfl (.inl rfl) (pe_op op_sub (pv 2) pe_int)))))
    (pss_one (ps_ret (pv 1)))), ?_⟩
  obtain ⟨a, t, ps, row0, rfl, ha, hpo, irr, ht, gr, nd, hn, q⟩ := h
  refine ⟨_, rfl, t, _, rfl, .inr ht.sq, _, _, rfl, rfl, ?_⟩
  rw [List.length_map]
  refine ⟨fun m σ H' => ∃ (t : Addr) (row : List Str) (k : Nat), σ = [some (.ref a), some (.ref t), some (.int ((k : Int) - 1))] ∧ Same H H' ∧ TupAt H' t (row.map V.str) ∧ Goods row ∧ row.Nodup ∧ row.length ≤ 60 ∧ k ≤ row.length ∧ (∀ j x, k ≤ j → row[j]? = some x → looseB ps row j x = false) ∧ goneR ps [] row = goneR ps [] row0 ∧ m = row.length * 61 + k, ?_, ?_⟩
  · refine ⟨_, t, row0, row0.length, rfl, Same.refl _, ht, gr, nd, hn, Nat.le_refl _, fun j x hj hx => ?_, rfl, rfl⟩
    have := (List.getElem?_eq_some_iff.mp hx).1
    omega
  · rintro m σ H1 ⟨t, row, k, rfl, s1, t1, gr1, nd1, hn1, kl, off, gg, rfl⟩
    refine ⟨_, rfl, _, _, rfl, rfl, _, rfl, ?_⟩
    cases k with
    | zero =>
      rw [if_neg (by decide)]
      rw [← gg, left_done off] at q
      exact ⟨_, rfl, q t H1 s1 t1⟩
    | succ k =>
      have kk : (((k + 1 : Nat) : Int) - 1) = ((k : Nat) : Int) := by omega
      rw [kk, if_pos (decide_eq_true (Int.natCast_nonneg k))]
      refine ⟨_, fun _ _ h => h, ?_⟩
      have hk : k < row.length := by omega
      obtain ⟨x, hx⟩ : ∃ x, row[k]? = some x := ⟨row[k], List.getElem?_eq_getElem hk⟩
      have gx := gr1 x (List.mem_of_getElem? hx)
      -- the row without it
      refine ⟨_, rfl, _, rfl, _, rfl, _, rfl, t, _, rfl, t1, fun t2 H2 s2 e2 => ?_⟩
      rw [cutV_map, cutL_to] at e2
      refine ⟨_, rfl, _, rfl, _, _, rfl, rfl, _, rfl, t, _, rfl, t1.same s2, fun t3 H3 s3 e3 => ?_⟩
      rw [cutV_map, show ((k : Int) + 1) = ((k + 1 : Nat) : Int) from rfl, cutL_from] at e3
      refine ⟨t2, t3, _, _, rfl, rfl, e2.same s3, e3, ?_, fun t4 H4 s4 e4 => ?_⟩
      · rw [List.length_map, List.length_map, List.length_take, List.length_drop]
        exact small_le (by omega)
      rw [← List.map_append] at e4
      have gl : Goods (row.take k ++ row.drop (k + 1)) := fun y hy => (List.mem_append.mp hy).elim (fun z => gr1 y (List.mem_of_mem_take z)) (fun z => gr1 y (List.mem_of_mem_drop z))
      have ll : (row.take k ++ row.drop (k + 1)).length + 1 = row.length := by
        rw [List.length_append, List.length_take, List.length_drop]
        omega
      have s24 := (s2.trans s3).trans s4
      have s14 := s1.trans s24
      refine ⟨_, rfl, _, rfl, t, _, ((k : Nat) : Int), _, rfl, rfl, (t1.same s24).sq, atI_nat (ix_map hx), ?_⟩
      refine ⟨a, t4, ps, _, x, rfl, ha.same s14, hpo, e4, gl, gx, by omega, fun t5 H5 s5 e5 => ?_⟩
      have gc : Goods (comeTo ps (row.take k ++ row.drop (k + 1)) x) := fun y hy => by
        rcases List.mem_cons.mp ((come_perm ps _ x).mem_iff.mp hy) with z | z
        · rw [z]
          exact gx
        · exact gl y z
      have s25 := s24.trans s5
      have s15 := s1.trans s25
      have t5' := t1.same s25
      refine ⟨_, rfl, t5, t, _, _, rfl, rfl, e5, t5', gc, gr1, _, rfl, ?_⟩
      rw [loose_iff nd1 hx (irr x)]
      refine ite2 (fun c => ?_) (fun c => ?_)
      · refine ⟨_, rfl, _, rfl, _, rfl, t, _, rfl, t5', fun t6 H6 s6 e6 => ?_⟩
        rw [cutV_map, cutL_to] at e6
        refine ⟨_, rfl, _, rfl, _, _, rfl, rfl, _, rfl, t, _, rfl, t5'.same s6, fun t7 H7 s7 e7 => ?_⟩
        rw [cutV_map, show ((k : Int) + 1) = ((k + 1 : Nat) : Int) from rfl, cutL_from] at e7
        refine ⟨t6, t7, _, _, rfl, rfl, e6.same s7, e7, ?_, fun t8 H8 s8 e8 => ?_⟩
        · rw [List.length_map, List.length_map, List.length_take, List.length_drop]
          exact small_le (by omega)
        rw [← List.map_append] at e8
        have s68 := (s6.trans s7).trans s8
        refine ⟨_, rfl, t8, _, rfl, .inr (TupAt.sq e8), _, rfl, _, _, rfl, rfl, ?_⟩
        rw [List.length_map]
        have ndl : (row.take k ++ row.drop (k + 1)).Nodup := by
          have sp := split_at hx
          have : rem row x = row.take k ++ row.drop (k + 1) := by
            conv => lhs; rw [sp]
            exact rem_split (sp ▸ nd1)
          rw [← this]
          exact rem_nodup nd1
        refine ⟨_, ?_, t8, _, _, rfl, s15.trans s68, e8, gl, ndl, by omega, Nat.le_refl _, fun j y hj hy => ?_, ?_, rfl⟩
        · omega
        · have := (List.getElem?_eq_some_iff.mp hy).1
          omega
        · rw [← gg]
          exact (left_go nd1 hx c off).symm
      · refine ⟨_, rfl, _, _, rfl, rfl, _, Nat.lt_succ_self _, t, row, k, rfl, s15, t5', gr1, nd1, hn1, by omega, fun j y hj hy => ?_, gg, rfl⟩
        rcases Nat.lt_or_ge k j with z | z
        · exact off j y z hy
        · obtain rfl : j = k := by omega
          rw [hx] at hy
          cases hy
          exact Bool.eq_false_iff.mpr c
/-! ### _law_same, of True too -/
theorem ok_sameB {f : Addr} {fd : FuncData} (B : Blt mg) (F : Fun K "_law_same" "_law_same" sSame f fd) : FnOk P w K mg base CX0 1 f fd nSame spSameB := by
  refine fok F scSame (fun vs H Q E h => ?_) (fun cdv A outer s H vs Q E hr h => ?_)
  · obtain ⟨i, rfl, _⟩ := h
    rfl
  obtain ⟨b, rfl, q⟩ := h
  refine ⟨_, pss_one (ps_ret (pe_cmpR op_eq (pe_callB call_repr_bl (by rfl) B.repr (by decide +kernel) (pa_cons (pv 0) pa_nil)) (pe_callB call_repr_bl (by rfl) B.repr (by decide +kernel) (pa_cons (pv 1) pa_nil)) (nomark _))), ?_⟩
  refine ⟨_, rfl, b, rfl, _, rfl, b, rfl, rfl, ?_⟩
  rw [decide_eq_true rfl]
  exact q H (Same.refl H)
theorem ok_same17 {f : Addr} {fd : FuncData} (B : Blt mg) (F : Fun K "_law_same" "_law_same" sSame f fd) : FnOk P w K mg base CX0 1 f fd nSame (spSame17 K) := FnOk.or (ok_sameR B F) (ok_sameB B F)
/-! ### _law_told -/
abbrev sTold : Stmt := topS 55
abbrev nTold : List Str := ["_law_pals_here", "_law_stand", "_law_way", "_law_name", "_law_last", "_law_number", "_law_caught", "error", "_law_strange"]
abbrev pTold : List Str := ["_law_pals_here", "_law_stand", "_law_way", "_law_name", "_law_last", "_law_number"]
theorem scTold : FnScope nTold pTold (defScope sTold) := ⟨rfl, rfl, rfl, by decide +kernel, rfl, by decide +kernel, by decide +kernel⟩
theorem ok_told17 {f CA CB CG CH CK CN CS fI : Addr} {fd : FuncData} (B : Blt mg) (TA : ClsK K mg "Apart" CA) (TB : ClsK K mg "Bare" CB) (TG : ClsK K mg "Gone" CG) (TH : ClsK K mg "Here" CH) (TK : ClsK K mg "Known" CK) (TN : ClsK K mg "NoOrder" CN) (TS : OwnK K mg "Stuck" "RuntimeError" "RuntimeError.__new__" "RuntimeError.__init__" "RuntimeError" CS fI) (noL : PySem.W.findIn K (.ref CS) "left" = some none)
    (nA : PySem.W.subIn K (.ref CS) (.ref CA) = some false) (nB : PySem.W.subIn K (.ref CS) (.ref CB) = some false) (nG : PySem.W.subIn K (.ref CS) (.ref CG) = some false) (nH : PySem.W.subIn K (.ref CS) (.ref CH) = some false) (nK : PySem.W.subIn K (.ref CS) (.ref CK) = some false) (nN : PySem.W.subIn K (.ref CS) (.ref CN) = some false)
    (CAs : CalX P w K mg base 10 "_law_asked" ["_law_pals_here", "_law_stand", "_law_way", "_law_name", "_law_last", "_law_number"] (spAsk17 CS)) (F : Fun K "_law_told" "_law_told" sTold f fd) : FnOk P w K mg base CX0 11 f fd pTold spTold17 := by
  refine fok F scTold (fun vs H Q E h => ?_) (fun cdv A outer s H vs Q E hr h => ?_)
  · obtain ⟨a, t, way, i, ps, row, x, y, rfl, _⟩ := h
    rfl
  have hu := hu_of hr
  refine ⟨_, pss_cons (ps_set (i := 6) scTold.nd rfl (.inl rfl) pe_non)
    (pss_cons (ps_try_asT (cs := [.ref CA, .ref CB, .ref CG, .ref CH, .ref CK, .ref CN, .ref CS]) (i := 7) (tb := fun W => tDrop (tCallS (spAsk17 CS) (L2.WE W) (tCons (tVar 0) (tCons (tVar 1) (tCons (tVar 2) (tCons (tVar 3) (tCons (tVar 4) (tCons (tVar 5) tNil)))))))) (ts := fun a cls d => tAsg (tVar 7) (gName 6)) rfl rfl rfl scTold.nd rfl rfl (by decide) (.cons ⟨rfl, by decide, .inl TA.g⟩ (.cons ⟨rfl, by decide, .inl TB.g⟩ (.cons ⟨rfl, by decide, .inl TG.g⟩ (.cons ⟨rfl, by decide, .inl TH.g⟩ (.cons ⟨rfl, by decide, .inl TK.g⟩ (.cons ⟨rfl, by decide, .inl TN.g⟩ (.cons ⟨rfl, by decide, .inl TS.g⟩ .nil))))))) takes0
      (fun W pn xe tk _ => pss_one (ps_expr (pe_calX CAs hr tk (pa_cons (pv 0) (pa_cons (pv 1) (pa_cons (pv 2) (pa_cons (pv 3) (pa_cons (pv 4) (pa_cons (pv 5) pa_nil)))))))))
      (fun a oe cls d pn _ _ => pss_one (ps_set (i := 6) scTold.nd rfl (.inl rfl) (pv 7))))
    (pss_cons (ps_if (pt_cmp (pc_isN (pv 6)))
      (pss_one (ps_ret pe_bl))
      pss_nil)
    (pss_cons (ps_set (i := 8) scTold.nd rfl (.inl rfl) (pe_or (pe_callB call_isVT (by rfl) B.isinstance (by decide +kernel) (pa_cons (pv 6) (pa_cons (pe_tup (pa_cons (pe_glob (v := .ref CA) rfl TA.g rfl) (pa_cons (pe_glob (v := .ref CB) rfl TB.g rfl) (pa_cons (pe_glob (v := .ref CG) rfl TG.g rfl) (pa_cons (pe_glob (v := .ref CH) rfl TH.g rfl) (pa_cons (pe_glob (v := .ref CK) rfl TK.g rfl) (pa_cons (pe_glob (v := .ref CN) rfl TN.g rfl) pa_nil))))))) pa_nil))) (pe_one (pe_not (pe_callB call_isV (by rfl) B.isinstance (by decide +kernel) (pa_cons (pv 6) (pa_cons (pe_bltn (v := .ty "RuntimeError") (by rfl) TS.nB PyProof.Rows.Boot.«RuntimeError» rfl) pa_nil)))))))
    (pss_one (ps_ret (pe_ifExp (pt_val (pv 8)) pe_non (pe_xv (pv 6)))))))), ?_⟩
  obtain ⟨a, t, way, i, ps, row, x, y, rfl, ha, hp, hpo, irr, ht, nd, hn, okr, hx, hy, h7, hw, hi0, hib, qe, qx⟩ := h
  refine ⟨_, rfl, _, rfl, _, rfl, _, rfl, _, rfl, _, rfl, a, t, way, i, ps, row, x, y, rfl, ha, hp, hpo, irr, ht, nd, hn, okr, hx, hy, h7, hw, hi0, hib, fun g0 v H1 s1 => ?_, fun g0 d l H1 s1 d1 nd1 l1 => ?_⟩
  · refine ⟨_, rfl, _, rfl, ?_⟩
    rw [decide_eq_true rfl]
    exact qe g0 H1 s1
  · refine ⟨true, exm_cons (TA.exm nA) (exm_cons (TB.exm nB) (exm_cons (TG.exm nG) (exm_cons (TH.exm nH) (exm_cons (TK.exm nK) (exm_cons (TN.exm nN) (exm_cons (TS.exm TS.self) exm_nil)))))), fun _ z hz => ?_, fun z => nomatch z⟩
    refine ⟨_, rfl, fun nz => ?_⟩
    have s2 := same_upd (o := ExV (.ref CS) (some d) z) nz
    have hd : Held (upd H1 z (ExV (.ref CS) (some d) z)) z CS [("left", .ref l)] := ⟨some d, upd_same, .inr ⟨d, rfl, s2 _ _ d1⟩⟩
    refine ⟨_, rfl, _, rfl, ?_⟩
    refine ⟨_, rfl, (by show 6 ≤ sizeLine; decide), fun tp htp => ?_⟩
    have s3 := same_upd (o := .tup [.ref CA, .ref CB, .ref CG, .ref CH, .ref CK, .ref CN]) htp
    refine ⟨z, CS, tp, _, _, _, false, rfl, upd_same, hd.same s3, TS.E, .cons (.own _) (.cons (.own _) (.cons (.own _) (.cons (.own _) (.cons (.own _) (.cons (.own _) .nil))))), kitAny_cons (b := false) (TA.one nA) (fun _ => kitAny_cons (b := false) (TB.one nB) (fun _ => kitAny_cons (b := false) (TG.one nG) (fun _ => kitAny_cons (b := false) (TH.one nH) (fun _ => kitAny_cons (b := false) (TK.one nK) (fun _ => kitAny_cons (b := false) (TN.one nN) (fun _ => kitAny_nil) (fun z => nomatch z)) (fun z => nomatch z)) (fun z => nomatch z)) (fun z => nomatch z)) (fun z => nomatch z)) (fun z => nomatch z), _, rfl, ite2 (fun c => nomatch c) (fun _ => ?_)⟩
    refine ⟨_, rfl, z, CS, _, _, _, true, rfl, hd.same s3, TS.E, .ty _, kit_base (by decide +kernel) TS.sB, _, rfl, ?_⟩
    refine ⟨_, rfl, _, rfl, ite2 (fun c => nomatch c) (fun _ => ?_)⟩
    exact ⟨_, rfl, z, CS, _, .ref l, rfl, hd.same s3, TS.xf, noL, rfl, qx g0 l _ ((s1.trans s2).trans s3) ((l1.same s2).same s3)⟩
/-! ### _law_right -/
abbrev sRight : Stmt := topS 56
abbrev nRight : List Str := ["_law_box_here", "_law_pool", "_law_turn", "_law_pals_here", "_law_stand", "_law_left_here", "_law_name", "_law_last", "_law_number", "_law_way"]
abbrev pRight : List Str := ["_law_box_here"]
theorem scRight : FnScope nRight pRight (defScope sRight) := ⟨rfl, rfl, rfl, by decide +kernel, rfl, by decide +kernel, by decide +kernel⟩
-- slots: 0:box_here 1:pool 2:turn 3:pals_here 4:stand 5:left_here 6:name 7:last 8:number 9:way
theorem ok_right {f : Addr} {fd : FuncData} (B : Blt mg) (CLft : Cal P w K mg base 3 "_law_left" ["_law_pals_here", "_law_stand"] spLeft17) (CN : Cal P w K mg base 2 "_law_names" ["_law_box_here", "_law_many"] spNames) (CP : Cal P w K mg base 2 "_law_pals" ["_law_box_here", "_law_pool"] spPals) (CSa : Cal P w K mg base 1 "_law_same" ["_law_found", "_law_due"] (spSame17 K)) (CW : Cal P w K mg base 2 "_law_strewn" ["_law_box_here", "_law_some"] spStrewn) (CT : Cal P w K mg base 1 "_law_take" ["_law_box_here", "_law_many"] spTake) (CTd : Cal P w K mg base 11 "_law_told" ["_law_pals_here", "_law_stand", "_law_way", "_law_name", "_law_last", "_law_number"] spTold17) (F : Fun K "_law_right" "_law_right" sRight f fd) : FnOk P w K mg base CX0 12 f fd pRight spRight := by
  refine fok F scRight (fun vs H Q E h => ?_) (fun cdv A outer s H vs Q E hr h => ?_)
  · obtain ⟨b, rfl, _⟩ := h
    rfl
  have hu := hu_of hr
  refine ⟨_, pss_cons (ps_set (i := 1) scRight.nd rfl (.inl rfl) (pe_cal CN hr (pa_cons (pv 0) (pa_cons (pe_op op_add pe_int (pe_cal CT hr (pa_cons (pv 0) (pa_cons pe_int pa_nil)))) pa_nil))))
    (pss_cons (ps_for PassesOwn.never rfl (pi_range1 (by rfl) B.range (pa_cons pe_int pa_nil)) (pg_name (i := 2) scRight.nd rfl (.inl rfl))
      (pss_cons (ps_par (i := 3) (j := 4) (by rfl) scRight.nd rfl rfl (by decide) rfl rfl (pa_cons (pe_cal CP hr (pa_cons (pv 0) (pa_cons (pv 1) pa_nil))) (pa_cons (pe_callTy call_tupleF (by rfl) B.tuple (by decide +kernel) (pa_cons (pe_cal CW hr (pa_cons (pv 0) (pa_cons (pv 1) pa_nil))) pa_nil)) pa_nil)) (by rfl))
        (pss_cons (ps_set (i := 5) scRight.nd rfl (.inl rfl) (pe_cal CLft hr (pa_cons (pv 3) (pa_cons (pv 4) pa_nil))))
        (pss_cons (ps_par (i := 6) (j := 7) (by rfl) scRight.nd rfl rfl (by decide) rfl rfl (pa_cons (pe_ix ix_tup (pv 4) (pe_cal CT hr (pa_cons (pv 0) (pa_cons (pe_callB call_len_seq (by rfl) B.len PySem.boot_len (pa_cons (pv 4) pa_nil)) pa_nil))) (fun _ _ => rfl)) (pa_cons (pe_ix ix_tup (pv 4) (pe_cal CT hr (pa_cons (pv 0) (pa_cons (pe_callB call_len_seq (by rfl) B.len PySem.boot_len (pa_cons (pv 4) pa_nil)) pa_nil))) (fun _ _ => rfl)) pa_nil)) (by rfl))
        (pss_cons (ps_mid (ps_set (i := 8) scRight.nd rfl (.inl rfl) (pe_ifExp (pt_cmpR (op_neT hr.units) (pv 5) (pe_tupF pa_nil) (nomark _)) (pe_ix ix_list (pe_lst (pa_cons pe_int (pa_cons (pe_un un_neg pe_int) (pa_cons (pe_op op_pow pe_int pe_int) pa_nil)))) (pe_cal CT hr (pa_cons (pv 0) (pa_cons pe_int pa_nil))) (fun _ _ => rfl)) pe_int)))
        (pss_one (ps_for PassesOwn.never rfl (pi_range1 (by rfl) B.range (pa_cons pe_int pa_nil)) (pg_name (i := 9) scRight.nd rfl (.inl rfl))
          (pss_one (ps_if (pt_mid (PW.pt (pw_or (pt_cmpR op_ne (pv 9) pe_int (nomark _)) (pw_or1 (pt_cmpR op_ne (pv 6) (pv 7) (nomark _))))))
              (pss_one (ps_if (pt_not (pt_val (pe_cal CSa hr (pa_cons (pe_cal CTd hr (pa_cons (pv 3) (pa_cons (pv 4) (pa_cons (pv 9) (pa_cons (pv 6) (pa_cons (pv 7) (pa_cons (pv 8) pa_nil))))))) (pa_cons (pe_ifExp (pt_cmpR (op_neT hr.units) (pv 5) (pe_tupF pa_nil) (nomark _)) (pv 5) pe_bl) pa_nil)))))
                  (pss_one (ps_ret pe_bl))
                  pss_nil))
              pss_nil)))))))))
    (pss_one (ps_ret pe_bl))), ?_⟩
  obtain ⟨b, rfl, hb, q⟩ := h
  refine ⟨_, rfl, _, rfl, b, 8, rfl, hb, by decide, by decide, fun v H1 o1 b1 v0 v1 => ⟨_, _, rfl, rfl, ?_⟩⟩
  refine ⟨b, ((1 : Int) + v).toNat, ?_, b1, by omega, fun l pool H2 o2 b2 nl e2 n2 nd2 ok2 => ?_⟩
  · rw [Int.toNat_of_nonneg (by omega)]
    rfl
  have gp : Goods pool := fun x hx => (ok2 x hx).good
  refine ⟨6, rfl, by decide, by decide, ?_⟩
  refine for_it (walk_range (lo := 0) (n := (6 : Int).toNat)) (fun i σ H' => ∃ (y2 y3 y4 y5 y6 y7 y8 y9 : Option V), σ = [some (.ref b), some (.ref l), y2, y3, y4, y5, y6, y7, y8, y9] ∧ Oth b H2 H' ∧ IsBox H' b) ?_ (fun _ _ _ _ _ => trivial) ?_ ?_
  · exact ⟨_, _, _, _, _, _, _, _, rfl, Oth.refl _ _, b2⟩
  · rintro i0 x0 σ H0' H0 hi ⟨y2, y3, y4, y5, y6, y7, y8, y9, rfl, o0, b0⟩ ⟨rfl, rfl⟩
    have e0 := o0 _ _ (b2.ne_strs e2) e2
    refine ⟨_, rfl, _, rfl, b, l, pool, rfl, b0, e0, nd2, by omega, fun a bs H3 o3 b3 na e3 p3 g3 c3 srt => ?_⟩
    have hpa3 : PalsAt H3 a (bs.map (·.2)) := ⟨bs, e3, p3, rfl⟩
    have hpo : PalsOk (bs.map (·.2)) := g3.ok gp
    have irr : Irr (bs.map (·.2)) := g3.irr
    have hpl : (bs.map (·.2)).length ≤ 1000 := by rw [List.length_map]; exact c3
    have l3 : H3 l = some (.lst (pool.map V.str)) := o3 _ _ (b0.ne_strs e0) e0
    generalize bs.map (·.2) = ps at hpa3 hpo irr hpl
    refine ⟨_, rfl, _, rfl, b, l, pool, rfl, b3, .inr l3, by omega, fun ol row H5 o5 b5 nol ol5 pm => ?_⟩
    refine ⟨ol, _, rfl, .inl ⟨.inl (.inl ol5), fun t H6 s6 nt t6 => ⟨_, _, rfl, ?_⟩⟩⟩
    have okr : ∀ x ∈ row, NameOk x := fun x hx => ok2 x (pm.mem_iff.mp hx)
    have gr : Goods row := fun x hx => (okr x hx).good
    have ndr : row.Nodup := pm.nodup_iff.mpr nd2
    have lr : row.length = pool.length := pm.length_eq
    have hpa6 := (hpa3.oth o5 b3).same s6
    have b6 := b5.same s6
    have t6' : TupAt H6 t (row.map V.str) := t6
    -- who is left
    refine ⟨_, rfl, _, rfl, a, t, ps, row, rfl, hpa6, hpo, irr, t6', gr, ndr, by omega, fun lf H7 s7 l7 => ?_⟩
    have b7 := b6.same s7
    have t7 := t6'.same s7
    have at_ : ∀ v : Int, 0 ≤ v → v < ((row.length : Nat) : Int) → ∃ x, x ∈ row ∧ atI (row.map V.str) v = some (V.str x) := fun v h0 h1 => by
      obtain ⟨h, hh⟩ : ∃ h, row[v.toNat]? = some h := ⟨row[v.toNat]'(by omega), List.getElem?_eq_getElem (by omega)⟩
      refine ⟨h, List.mem_of_getElem? hh, ?_⟩
      have e : v = ((v.toNat : Nat) : Int) := by omega
      rw [e]
      exact atI_nat (ix_map hh)
    refine ⟨_, rfl, _, rfl, _, rfl, t, _, rfl, .inr t7.sq, b, _, rfl, b7, ?_, ?_, fun v8 H8 o8 b8 v80 v81 => ?_⟩
    · rw [List.length_map]; omega
    · rw [List.length_map]; omega
    rw [List.length_map] at v81
    have t8 := t7.oth o8 b7
    obtain ⟨x, hx, ex⟩ := at_ v8 v80 v81
    refine ⟨t, _, _, _, rfl, rfl, t8.sq, ex, ?_⟩
    refine ⟨_, rfl, _, rfl, _, rfl, t, _, rfl, .inr t8.sq, b, _, rfl, b8, ?_, ?_, fun v9 H9 o9 b9 v90 v91 => ?_⟩
    · rw [List.length_map]; omega
    · rw [List.length_map]; omega
    rw [List.length_map] at v91
    have t9 := t8.oth o9 b8
    obtain ⟨y, hy, ey⟩ := at_ v9 v90 v91
    refine ⟨t, _, _, _, rfl, rfl, t9.sq, ey, _, _, rfl, ?_⟩
    have o79 := o8.trans o9
    have l9 : TupAt H9 lf ((goneR ps [] row).map V.str) := (l7 : TupAt H7 lf _).oth o79 b7
    have hpa9 := (hpa6.same s7).oth o79 b7
    have gl : Goods (goneR ps [] row) := fun z hz => gr z (goneR_sub.subset hz)
    -- the number
    refine ⟨fun σ' H' => ∃ i : Int, σ' = [some (.ref b), some (.ref l), some (.int (0 + (i0 : Int))), some (.ref a), some (.ref t), some (.ref lf), some (.str x), some (.str y), some (.int i), y9] ∧ Oth b H9 H' ∧ IsBox H' b ∧ (goneR ps [] row = [] → i = 0) ∧ i.natAbs < 10 ^ 12, ?_, ?_⟩
    · refine ⟨_, rfl, (by show 0 ≤ sizeLine; decide), fun ne H10 s10 n10 e10 => ?_⟩
      refine ⟨lf, ne, _, [], rfl, rfl, l9.same s10, e10, gl, (fun _ h => nomatch h), _, rfl, ite2 (fun c => ?_) (fun c => ?_)⟩
      · have g0 : goneR ps [] row ≠ [] := by simpa using c
        refine ⟨1, rfl, 10, 6, rfl, rfl, ⟨by decide, by decide, by decide⟩, (by show 3 ≤ sizeLine; decide), fun tl htl => ?_⟩
        have s11 := same_upd (o := .lst [V.int 0, V.int (-1), V.int ((10 : Int) ^ ((6 : Int).toNat))]) htl
        refine ⟨_, rfl, b, 3, rfl, (b9.same s10).same s11, by decide, by decide, fun v12 H12 o12 b12 v120 v121 => ?_⟩
        have nlb : tl ≠ b := fun z => by
          obtain ⟨u, v', w', hbx⟩ := b9.same s10
          rw [z, hbx] at htl
          cases htl
        have e12 := o12 _ _ nlb (upd_same (H := H10) (a := tl) (o := .lst [V.int 0, V.int (-1), V.int ((10 : Int) ^ ((6 : Int).toNat))]))
        have o912 : Oth b H9 H12 := ((Oth.of s10).trans (.of s11)).trans o12
        have vv : v12 = 0 ∨ v12 = 1 ∨ v12 = 2 := by omega
        rcases vv with rfl | rfl | rfl
        · exact ⟨tl, _, 0, _, rfl, rfl, .inl (.inl e12), rfl, 0, rfl, o912, b12, fun z => absurd z g0, by decide⟩
        · exact ⟨tl, _, 1, _, rfl, rfl, .inl (.inl e12), rfl, -1, rfl, o912, b12, fun z => absurd z g0, by decide⟩
        · exact ⟨tl, _, 2, _, rfl, rfl, .inl (.inl e12), rfl, 1000000, rfl, o912, b12, fun z => absurd z g0, by decide⟩
      · exact ⟨0, rfl, .of s10, b9.same s10, fun _ => rfl, by decide⟩
    rintro σ' H10 ⟨i, rfl, o10, b10, i0', ib⟩
    have t10 := t9.oth o10 b9
    have l10 := l9.oth o10 b9
    have hpa10 := hpa9.oth o10 b9
    refine ⟨10, rfl, by decide, by decide, ?_⟩
    refine for_it (walk_range (lo := 0) (n := (10 : Int).toNat)) (fun j σ H' => ∃ (y9 : Option V), σ = [some (.ref b), some (.ref l), some (.int (0 + (i0 : Int))), some (.ref a), some (.ref t), some (.ref lf), some (.str x), some (.str y), some (.int i), y9] ∧ Same H10 H') ?_ (fun _ _ _ _ _ => trivial) ?_ ?_
    · exact ⟨_, rfl, Same.refl _⟩
    · rintro j x1 σ H11' H11 hj ⟨y9', rfl, s11⟩ ⟨rfl, rfl⟩
      have ej : (0 : Int) + (j : Int) = ((j : Nat) : Int) := Int.zero_add _
      have jl : j < 10 := hj
      refine ⟨fun c H' => (c = true → j = 7 → x ≠ y) ∧ Same H10 H', ?_, ?_⟩
      · refine ⟨_, rfl, rfl, _, rfl, ite2 (fun c => ?_) (fun c => ?_)⟩
        · refine ⟨fun _ h7 => ?_, s11⟩
          subst h7
          exact absurd c (by decide)
        · refine ⟨_, rfl, _, rfl, rfl, _, rfl, fun c2 _ => ?_, s11⟩
          intro e
          rw [e] at c2
          simp at c2
      rintro c H12 ⟨hc, s12⟩
      refine ite2 (fun cc => ?_) (fun cc => ⟨_, rfl, s12⟩)
      refine ⟨_, rfl, _, rfl, _, rfl, _, rfl, _, rfl, _, rfl, a, t, j, i, ps, row, x, y, ?_, (hpa10.same s12).fr, hpl, hpo, irr, t10.same s12, ndr, by omega, okr, hx, hy, hc cc, jl, i0', ib, fun g0 H13 s13 => ?_, fun g0 l' H13 s13 l13 => ?_⟩
      · exact congrArg (fun z => [V.ref a, V.ref t, V.int z, V.str x, V.str y, V.int i]) ej
      · refine ⟨_, rfl, (by show 0 ≤ sizeLine; decide), fun ne H14 s14 n14 e14 => ?_⟩
        refine ⟨lf, ne, _, [], rfl, rfl, ((l10.same s12).same s13).same s14, e14, gl, (fun _ h => nomatch h), _, rfl, ?_⟩
        rw [g0]
        refine .inr ⟨true, rfl, fun H15 s15 => ⟨true, rfl, ?_⟩⟩
        exact ⟨_, rfl, ((s12.trans s13).trans s14).trans s15⟩
      · refine ⟨_, rfl, (by show 0 ≤ sizeLine; decide), fun ne H14 s14 n14 e14 => ?_⟩
        refine ⟨lf, ne, _, [], rfl, rfl, ((l10.same s12).same s13).same s14, e14, gl, (fun _ h => nomatch h), _, rfl, ite2 (fun _ => ?_) (fun z => absurd (by simp [g0]) z)⟩
        have ft := names_fitT (fun z hz => okr z (goneR_sub.subset hz)) (Nat.le_trans (goneR_sub (ps := ps) (stay := []) (row := row)).length_le (by omega))
        refine ⟨_, rfl, .inl ⟨.ref l', .ref lf, _, rfl, Shown.mk_ (dp_names (l13.same s14)) ft, Shown.mk_ (dp_names (((l10.same s12).same s13).same s14)) ft, fun H15 s15 => ⟨true, rfl, ?_⟩⟩⟩
        exact ⟨_, rfl, ((s12.trans s13).trans s14).trans s15⟩
    · rintro σ H11 ⟨y9', rfl, s11⟩
      have o911 := o10.trans (.of s11)
      exact ⟨_, _, _, _, _, _, _, _, rfl, ((((((o0.trans o3).trans o5).trans (.of s6)).trans (.of s7)).trans o79).trans o911), b10.same s11⟩
  · rintro σ H3 ⟨y2, y3, y4, y5, y6, y7, y8, y9, rfl, o3, b3⟩
    exact q _ ((o1.trans o2).trans o3)
/-! ### law -/
abbrev sLaw : Stmt := topS 57
abbrev nLaw : List Str := ["_law_script", "_law_cells_here", "_law_k"]
theorem scLaw : FnScope nLaw ["_law_script"] (defScope sLaw) := ⟨rfl, rfl, rfl, by decide +kernel, rfl, by decide +kernel, by decide +kernel⟩
theorem ok_law {f : Addr} {fd : FuncData} {n : Nat} (B : Blt mg) (CC : Cal P w K mg base 1 "_law_cells" ["_law_script", "_law_utmost"] (spCells K)) (CX : Cal P w K mg base 1 "_law_box" ["_law_cells_here", "_law_k"] spBox) (CR : Cal P w K mg base (n + 1) "_law_right" ["_law_box_here"] spRight) (F : Fun K "law" "law" sLaw f fd) : FnOk P w K mg base CX0 (n + 2) f fd ["_law_script"] (spLaw K) := by
  refine fok F scLaw (fun vs H Q E h => ?_) (fun cdv A outer s H vs Q E hr h => ?_)
  · obtain ⟨a, ns, rfl, _⟩ := h
    rfl
  obtain ⟨a, ns, rfl, ha, hn, q⟩ := h
  have h1 : Room 1 _ := hr.mono (by omega)
  refine ⟨_, pss_cons (ps_set (i := 1) scLaw.nd rfl (.inl rfl) (pe_cal CC h1 (pa_cons (pv 0) (pa_cons pe_int pa_nil))))
    (pss_cons (ps_for PassesOwn.never rfl (pi_range1 (by rfl) B.range (pa_cons (pe_callB call_len_seq (by rfl) B.len PySem.boot_len (pa_cons (pv 1) pa_nil)) pa_nil)) (pg_name (i := 2) scLaw.nd rfl (.inl rfl))
      (pss_one (ps_if (pt_not (pt_val (pe_cal CR hr (pa_cons (pe_cal CX h1 (pa_cons (pv 1) (pa_cons (pv 2) pa_nil))) pa_nil)))) (pss_one (ps_ret pe_bl)) pss_nil)))
    (pss_one (ps_ret pe_bl))), ?_⟩
  refine ⟨.ref a, rfl, a, ns, _, rfl, ha, hn, by decide, by decide, fun c ms H1 s1 nc e1 m0 m3 => ?_⟩
  refine ⟨.ref c, rfl, c, _, rfl, .inl (.inl (.inl e1)), _, rfl, ?_, ?_, ?_⟩
  · rw [List.length_map]
    omega
  · rw [List.length_map]
    omega
  rw [List.length_map]
  refine for_it (walk_range (lo := 0) (n := ((ms.length : Int)).toNat)) (fun i σ H' => ∃ y2, σ = [some (.ref a), some (.ref c), y2] ∧ H' c = some (.lst (ms.map V.int))) ?_ (fun _ _ _ _ _ => trivial) ?_ ?_
  · exact ⟨_, rfl, e1⟩
  · rintro i x σ H3 H2 hi ⟨y2, rfl, e2⟩ ⟨rfl, rfl⟩
    have ei : (0 : Int) + (i : Int) = (i : Int) := Int.zero_add _
    refine ⟨.ref c, rfl, _, rfl, c, ms, i, congrArg (fun z => [V.ref c, V.int z]) ei, e2, by omega, by omega, fun b H4 s4 nb b4 => ?_⟩
    have c4 := s4 _ _ e2
    have ncb : c ≠ b := ne_of_none e2 nb
    exact ⟨b, rfl, b4, fun H5 o5 => ⟨true, rfl, _, rfl, o5 _ _ ncb c4⟩⟩
  · rintro σ H2 ⟨y2, rfl, e2⟩
    exact q _
end
/-! ### what the top has written; the law's own head -/
theorem all_mk {l : PySem.W.OpenLaw} {w : World} {K : PySem.W.Frag} {h : Heap} {mg : Str → Option Value} {fa f1 f2 f3 f4 f5 f6 f7 f8 f9 f10 f11 f12 f13 f14 f15 f16 f17 f18 f19 f20 f21 f22 f23 f24 f25 f26 f27 f28 f29 f30 f31 f32 f33 f34 f35 f36 f37 f38 f39 f40 f41 : Addr} (XK : K.In h) (G : h.Ns mainGlobals mg) (hfa : mg "law" = some (.ref fa))
    {od1 an1 od2 an2 od3 an3 od4 an4 od5 an5 od6 an6 od7 an7 od8 an8 od9 an9 od10 an10 od11 an11 od12 an12 od13 an13 od14 an14 od15 an15 od16 an16 od17 an17 od18 an18 od19 an19 od20 an20 od21 an21 od22 an22 od23 an23 od24 an24 od25 an25 od26 an26 od27 an27 od28 an28 od29 an29 od30 an30 od31 an31 od32 an32 od33 an33 od34 an34 od35 an35 od36 an36 od37 an37 od38 an38 od39 an39 od40 an40 od41 an41 : Option Addr} {sl1 sl2 sl3 sl4 sl5 sl6 sl7 sl8 sl9 sl10 sl11 sl12 sl13 sl14 sl15 sl16 sl17 sl18 sl19 sl20 sl21 sl22 sl23 sl24 sl25 sl26 sl27 sl28 sl29 sl30 sl31 sl32 sl33 sl34 sl35 sl36 sl37 sl38 sl39 sl40 sl41 : Array (Option Value)} {oc1 kV1 dc1 pm1 cd1 ct1 oc2 kV2 dc2 pm2 cd2 ct2 oc3 kV3 dc3 pm3 cd3 ct3 oc4 kV4 dc4 pm4 cd4 ct4 oc5 kV5 dc5 pm5 cd5 ct5 oc6 kV6 dc6 pm6 cd6 ct6 oc7 kV7 dc7 pm7 cd7 ct7 oc8 kV8 dc8 pm8 cd8 ct8 oc9 kV9 dc9 pm9 cd9 ct9 oc10 kV10 dc10 pm10 cd10 ct10 oc11 kV11 dc11 pm11 cd11 ct11 oc12 kV12 dc12 pm12 cd12 ct12 oc13 kV13 dc13 pm13 cd13 ct13 oc14 kV14 dc14 pm14 cd14 ct14 oc15 kV15 dc15 pm15 cd15 ct15 oc16 kV16 dc16 pm16 cd16 ct16 oc17 kV17 dc17 pm17 cd17 ct17 oc18 kV18 dc18 pm18 cd18 ct18 oc19 kV19 dc19 pm19 cd19 ct19 oc20 kV20 dc20 pm20 cd20 ct20 oc21 kV21 dc21 pm21 cd21 ct21 oc22 kV22 dc22 pm22 cd22 ct22 oc23 kV23 dc23 pm23 cd23 ct23 oc24 kV24 dc24 pm24 cd24 ct24 oc25 kV25 dc25 pm25 cd25 ct25 oc26 kV26 dc26 pm26 cd26 ct26 oc27 kV27 dc27 pm27 cd27 ct27 oc28 kV28 dc28 pm28 cd28 ct28 oc29 kV29 dc29 pm29 cd29 ct29 oc30 kV30 dc30 pm30 cd30 ct30 oc31 kV31 dc31 pm31 cd31 ct31 oc32 kV32 dc32 pm32 cd32 ct32 oc33 kV33 dc33 pm33 cd33 ct33 oc34 kV34 dc34 pm34 cd34 ct34 oc35 kV35 dc35 pm35 cd35 ct35 oc36 kV36 dc36 pm36 cd36 ct36 oc37 kV37 dc37 pm37 cd37 ct37 oc38 kV38 dc38 pm38 cd38 ct38 oc39 kV39 dc39 pm39 cd39 ct39 oc40 kV40 dc40 pm40 cd40 ct40 oc41 kV41 dc41 pm41 cd41 ct41 : Value}
    (a1 : PySem.W.nsIn K mainGlobals "both_ways" = some (some (.ref f1))) (l1 : K.lookup f1 = some ⟨oc1, od1, .func (PySem.W.fnOf "both_ways" "both_ways" (defArgs sBoth) (defBody sBoth) (defScope sBoth) .none kV1 dc1 pm1 an1 cd1 ct1), sl1⟩) (c1 : PySem.W.codeIn K cd1 "both_ways" = true) (k1 : PySem.W.keepIn K (.ref f1) = true)
    (a2 : PySem.W.nsIn K mainGlobals "last_friend_place" = some (some (.ref f2))) (l2 : K.lookup f2 = some ⟨oc2, od2, .func (PySem.W.fnOf "last_friend_place" "last_friend_place" (defArgs sLfp) (defBody sLfp) (defScope sLfp) .none kV2 dc2 pm2 an2 cd2 ct2), sl2⟩) (c2 : PySem.W.codeIn K cd2 "last_friend_place" = true) (k2 : PySem.W.keepIn K (.ref f2) = true)
    (a3 : PySem.W.nsIn K mainGlobals "bar_words" = some (some (.ref f3))) (l3 : K.lookup f3 = some ⟨oc3, od3, .func (PySem.W.fnOf "bar_words" "bar_words" (defArgs sBarW) (defBody sBarW) (defScope sBarW) .none kV3 dc3 pm3 an3 cd3 ct3), sl3⟩) (c3 : PySem.W.codeIn K cd3 "bar_words" = true) (k3 : PySem.W.keepIn K (.ref f3) = true)
    (a4 : PySem.W.nsIn K mainGlobals "barred_in" = some (some (.ref f4))) (l4 : K.lookup f4 = some ⟨oc4, od4, .func (PySem.W.fnOf "barred_in" "barred_in" (defArgs sBarredIn) (defBody sBarredIn) (defScope sBarredIn) .none kV4 dc4 pm4 an4 cd4 ct4), sl4⟩) (c4 : PySem.W.codeIn K cd4 "barred_in" = true) (k4 : PySem.W.keepIn K (.ref f4) = true)
    (a5 : PySem.W.nsIn K mainGlobals "kept" = some (some (.ref f5))) (l5 : K.lookup f5 = some ⟨oc5, od5, .func (PySem.W.fnOf "kept" "kept" (defArgs sKept) (defBody sKept) (defScope sKept) .none kV5 dc5 pm5 an5 cd5 ct5), sl5⟩) (c5 : PySem.W.codeIn K cd5 "kept" = true) (k5 : PySem.W.keepIn K (.ref f5) = true)
    (a6 : PySem.W.nsIn K mainGlobals "loose_at" = some (some (.ref f6))) (l6 : K.lookup f6 = some ⟨oc6, od6, .func (PySem.W.fnOf "loose_at" "loose_at" (defArgs sLooseAt) (defBody sLooseAt) (defScope sLooseAt) .none kV6 dc6 pm6 an6 cd6 ct6), sl6⟩) (c6 : PySem.W.codeIn K cd6 "loose_at" = true) (k6 : PySem.W.keepIn K (.ref f6) = true)
    (a7 : PySem.W.nsIn K mainGlobals "hindmost_loose" = some (some (.ref f7))) (l7 : K.lookup f7 = some ⟨oc7, od7, .func (PySem.W.fnOf "hindmost_loose" "hindmost_loose" (defArgs sHind) (defBody sHind) (defScope sHind) .none kV7 dc7 pm7 an7 cd7 ct7), sl7⟩) (c7 : PySem.W.codeIn K cd7 "hindmost_loose" = true) (k7 : PySem.W.keepIn K (.ref f7) = true)
    (a8 : PySem.W.nsIn K mainGlobals "gone_and_stayed" = some (some (.ref f8))) (l8 : K.lookup f8 = some ⟨oc8, od8, .func (PySem.W.fnOf "gone_and_stayed" "gone_and_stayed" (defArgs sStayed) (defBody sStayed) (defScope sStayed) .none kV8 dc8 pm8 an8 cd8 ct8), sl8⟩) (c8 : PySem.W.codeIn K cd8 "gone_and_stayed" = true) (k8 : PySem.W.keepIn K (.ref f8) = true)
    (a9 : PySem.W.nsIn K mainGlobals "gone_and_left" = some (some (.ref f9))) (l9 : K.lookup f9 = some ⟨oc9, od9, .func (PySem.W.fnOf "gone_and_left" "gone_and_left" (defArgs sGone) (defBody sGone) (defScope sGone) .none kV9 dc9 pm9 an9 cd9 ct9), sl9⟩) (c9 : PySem.W.codeIn K cd9 "gone_and_left" = true) (k9 : PySem.W.keepIn K (.ref f9) = true)
    (a10 : PySem.W.nsIn K mainGlobals "some_order" = some (some (.ref f10))) (l10 : K.lookup f10 = some ⟨oc10, od10, .func (PySem.W.fnOf "some_order" "some_order" (defArgs sSomeO) (defBody sSomeO) (defScope sSomeO) .none kV10 dc10 pm10 an10 cd10 ct10), sl10⟩) (c10 : PySem.W.codeIn K cd10 "some_order" = true) (k10 : PySem.W.keepIn K (.ref f10) = true)
    (a11 : PySem.W.nsIn K mainGlobals "bits_of" = some (some (.ref f11))) (l11 : K.lookup f11 = some ⟨oc11, od11, .func (PySem.W.fnOf "bits_of" "bits_of" (defArgs sBitsOf) (defBody sBitsOf) (defScope sBitsOf) .none kV11 dc11 pm11 an11 cd11 ct11), sl11⟩) (c11 : PySem.W.codeIn K cd11 "bits_of" = true) (k11 : PySem.W.keepIn K (.ref f11) = true)
    (a12 : PySem.W.nsIn K mainGlobals "barrers_of" = some (some (.ref f12))) (l12 : K.lookup f12 = some ⟨oc12, od12, .func (PySem.W.fnOf "barrers_of" "barrers_of" (defArgs sBarr) (defBody sBarr) (defScope sBarr) .none kV12 dc12 pm12 an12 cd12 ct12), sl12⟩) (c12 : PySem.W.codeIn K cd12 "barrers_of" = true) (k12 : PySem.W.keepIn K (.ref f12) = true)
    (a13 : PySem.W.nsIn K mainGlobals "next_ones" = some (some (.ref f13))) (l13 : K.lookup f13 = some ⟨oc13, od13, .func (PySem.W.fnOf "next_ones" "next_ones" (defArgs sNextO) (defBody sNextO) (defScope sNextO) .none kV13 dc13 pm13 an13 cd13 ct13), sl13⟩) (c13 : PySem.W.codeIn K cd13 "next_ones" = true) (k13 : PySem.W.keepIn K (.ref f13) = true)
    (a14 : PySem.W.nsIn K mainGlobals "bunches_by_size" = some (some (.ref f14))) (l14 : K.lookup f14 = some ⟨oc14, od14, .func (PySem.W.fnOf "bunches_by_size" "bunches_by_size" (defArgs sBunch) (defBody sBunch) (defScope sBunch) .none kV14 dc14 pm14 an14 cd14 ct14), sl14⟩) (c14 : PySem.W.codeIn K cd14 "bunches_by_size" = true) (k14 : PySem.W.keepIn K (.ref f14) = true)
    (a15 : PySem.W.nsIn K mainGlobals "how_many" = some (some (.ref f15))) (l15 : K.lookup f15 = some ⟨oc15, od15, .func (PySem.W.fnOf "how_many" "how_many" (defArgs sHM) (defBody sHM) (defScope sHM) .none kV15 dc15 pm15 an15 cd15 ct15), sl15⟩) (c15 : PySem.W.codeIn K cd15 "how_many" = true) (k15 : PySem.W.keepIn K (.ref f15) = true)
    (a16 : PySem.W.nsIn K mainGlobals "nth_order" = some (some (.ref f16))) (l16 : K.lookup f16 = some ⟨oc16, od16, .func (PySem.W.fnOf "nth_order" "nth_order" (defArgs sNthO) (defBody sNthO) (defScope sNthO) .none kV16 dc16 pm16 an16 cd16 ct16), sl16⟩) (c16 : PySem.W.codeIn K cd16 "nth_order" = true) (k16 : PySem.W.keepIn K (.ref f16) = true)
    (a17 : PySem.W.nsIn K mainGlobals "came_behind" = some (some (.ref f17))) (l17 : K.lookup f17 = some ⟨oc17, od17, .func (PySem.W.fnOf "came_behind" "came_behind" (defArgs sCameB) (defBody sCameB) (defScope sCameB) .none kV17 dc17 pm17 an17 cd17 ct17), sl17⟩) (c17 : PySem.W.codeIn K cd17 "came_behind" = true) (k17 : PySem.W.keepIn K (.ref f17) = true)
    (a18 : PySem.W.nsIn K mainGlobals "needed_ahead" = some (some (.ref f18))) (l18 : K.lookup f18 = some ⟨oc18, od18, .func (PySem.W.fnOf "needed_ahead" "needed_ahead" (defArgs sNeeded) (defBody sNeeded) (defScope sNeeded) .none kV18 dc18 pm18 an18 cd18 ct18), sl18⟩) (c18 : PySem.W.codeIn K cd18 "needed_ahead" = true) (k18 : PySem.W.keepIn K (.ref f18) = true)
    (a19 : PySem.W.nsIn K mainGlobals "earliest" = some (some (.ref f19))) (l19 : K.lookup f19 = some ⟨oc19, od19, .func (PySem.W.fnOf "earliest" "earliest" (defArgs sErl) (defBody sErl) (defScope sErl) .none kV19 dc19 pm19 an19 cd19 ct19), sl19⟩) (c19 : PySem.W.codeIn K cd19 "earliest" = true) (k19 : PySem.W.keepIn K (.ref f19) = true)
    (a20 : PySem.W.nsIn K mainGlobals "latest" = some (some (.ref f20))) (l20 : K.lookup f20 = some ⟨oc20, od20, .func (PySem.W.fnOf "latest" "latest" (defArgs sLat) (defBody sLat) (defScope sLat) .none kV20 dc20 pm20 an20 cd20 ct20), sl20⟩) (c20 : PySem.W.codeIn K cd20 "latest" = true) (k20 : PySem.W.keepIn K (.ref f20) = true)
    (a21 : PySem.W.nsIn K mainGlobals "early_order" = some (some (.ref f21))) (l21 : K.lookup f21 = some ⟨oc21, od21, .func (PySem.W.fnOf "early_order" "early_order" (defArgs sEOr) (defBody sEOr) (defScope sEOr) .none kV21 dc21 pm21 an21 cd21 ct21), sl21⟩) (c21 : PySem.W.codeIn K cd21 "early_order" = true) (k21 : PySem.W.keepIn K (.ref f21) = true)
    (a22 : PySem.W.nsIn K mainGlobals "late_order" = some (some (.ref f22))) (l22 : K.lookup f22 = some ⟨oc22, od22, .func (PySem.W.fnOf "late_order" "late_order" (defArgs sLOr) (defBody sLOr) (defScope sLOr) .none kV22 dc22 pm22 an22 cd22 ct22), sl22⟩) (c22 : PySem.W.codeIn K cd22 "late_order" = true) (k22 : PySem.W.keepIn K (.ref f22) = true)
    (a23 : PySem.W.nsIn K mainGlobals "came_ahead" = some (some (.ref f23))) (l23 : K.lookup f23 = some ⟨oc23, od23, .func (PySem.W.fnOf "came_ahead" "came_ahead" (defArgs sAhead) (defBody sAhead) (defScope sAhead) .none kV23 dc23 pm23 an23 cd23 ct23), sl23⟩) (c23 : PySem.W.codeIn K cd23 "came_ahead" = true) (k23 : PySem.W.keepIn K (.ref f23) = true)
    (a24 : PySem.W.nsIn K mainGlobals "next_towards" = some (some (.ref f24))) (l24 : K.lookup f24 = some ⟨oc24, od24, .func (PySem.W.fnOf "next_towards" "next_towards" (defArgs sNextT) (defBody sNextT) (defScope sNextT) .none kV24 dc24 pm24 an24 cd24 ct24), sl24⟩) (c24 : PySem.W.codeIn K cd24 "next_towards" = true) (k24 : PySem.W.keepIn K (.ref f24) = true)
    (a25 : PySem.W.nsIn K mainGlobals "chain_of" = some (some (.ref f25))) (l25 : K.lookup f25 = some ⟨oc25, od25, .func (PySem.W.fnOf "chain_of" "chain_of" (defArgs sChain) (defBody sChain) (defScope sChain) .none kV25 dc25 pm25 an25 cd25 ct25), sl25⟩) (c25 : PySem.W.codeIn K cd25 "chain_of" = true) (k25 : PySem.W.keepIn K (.ref f25) = true)
    (a26 : PySem.W.nsIn K mainGlobals "hung" = some (some (.ref f26))) (l26 : K.lookup f26 = some ⟨oc26, od26, .func (PySem.W.fnOf "hung" "hung" (defArgs sHung) (defBody sHung) (defScope sHung) .none kV26 dc26 pm26 an26 cd26 ct26), sl26⟩) (c26 : PySem.W.codeIn K cd26 "hung" = true) (k26 : PySem.W.keepIn K (.ref f26) = true)
    (a27 : PySem.W.nsIn K mainGlobals "put_back_bounds" = some (some (.ref f27))) (l27 : K.lookup f27 = some ⟨oc27, od27, .func (PySem.W.fnOf "put_back_bounds" "put_back_bounds" (defArgs sBounds) (defBody sBounds) (defScope sBounds) .none kV27 dc27 pm27 an27 cd27 ct27), sl27⟩) (c27 : PySem.W.codeIn K cd27 "put_back_bounds" = true) (k27 : PySem.W.keepIn K (.ref f27) = true)
    (a28 : PySem.W.nsIn K mainGlobals "_law_box" = some (some (.ref f28))) (l28 : K.lookup f28 = some ⟨oc28, od28, .func (PySem.W.fnOf "_law_box" "_law_box" (defArgs sBox) (defBody sBox) (defScope sBox) .none kV28 dc28 pm28 an28 cd28 ct28), sl28⟩) (c28 : PySem.W.codeIn K cd28 "_law_box" = true) (k28 : PySem.W.keepIn K (.ref f28) = true)
    (a29 : PySem.W.nsIn K mainGlobals "_law_take" = some (some (.ref f29))) (l29 : K.lookup f29 = some ⟨oc29, od29, .func (PySem.W.fnOf "_law_take" "_law_take" (defArgs sTake) (defBody sTake) (defScope sTake) .none kV29 dc29 pm29 an29 cd29 ct29), sl29⟩) (c29 : PySem.W.codeIn K cd29 "_law_take" = true) (k29 : PySem.W.keepIn K (.ref f29) = true)
    (a30 : PySem.W.nsIn K mainGlobals "_law_cells" = some (some (.ref f30))) (l30 : K.lookup f30 = some ⟨oc30, od30, .func (PySem.W.fnOf "_law_cells" "_law_cells" (defArgs sCells) (defBody sCells) (defScope sCells) .none kV30 dc30 pm30 an30 cd30 ct30), sl30⟩) (c30 : PySem.W.codeIn K cd30 "_law_cells" = true) (k30 : PySem.W.keepIn K (.ref f30) = true)
    (a31 : PySem.W.nsIn K mainGlobals "_law_names" = some (some (.ref f31))) (l31 : K.lookup f31 = some ⟨oc31, od31, .func (PySem.W.fnOf "_law_names" "_law_names" (defArgs sNames) (defBody sNames) (defScope sNames) .none kV31 dc31 pm31 an31 cd31 ct31), sl31⟩) (c31 : PySem.W.codeIn K cd31 "_law_names" = true) (k31 : PySem.W.keepIn K (.ref f31) = true)
    (a32 : PySem.W.nsIn K mainGlobals "_law_pals" = some (some (.ref f32))) (l32 : K.lookup f32 = some ⟨oc32, od32, .func (PySem.W.fnOf "_law_pals" "_law_pals" (defArgs sPals) (defBody sPals) (defScope sPals) .none kV32 dc32 pm32 an32 cd32 ct32), sl32⟩) (c32 : PySem.W.codeIn K cd32 "_law_pals" = true) (k32 : PySem.W.keepIn K (.ref f32) = true)
    (a33 : PySem.W.nsIn K mainGlobals "_law_are" = some (some (.ref f33))) (l33 : K.lookup f33 = some ⟨oc33, od33, .func (PySem.W.fnOf "_law_are" "_law_are" (defArgs sAre) (defBody sAre) (defScope sAre) .none kV33 dc33 pm33 an33 cd33 ct33), sl33⟩) (c33 : PySem.W.codeIn K cd33 "_law_are" = true) (k33 : PySem.W.keepIn K (.ref f33) = true)
    (a34 : PySem.W.nsIn K mainGlobals "_law_come" = some (some (.ref f34))) (l34 : K.lookup f34 = some ⟨oc34, od34, .func (PySem.W.fnOf "_law_come" "_law_come" (defArgs sCome) (defBody sCome) (defScope sCome) .none kV34 dc34 pm34 an34 cd34 ct34), sl34⟩) (c34 : PySem.W.codeIn K cd34 "_law_come" = true) (k34 : PySem.W.keepIn K (.ref f34) = true)
    (a35 : PySem.W.nsIn K mainGlobals "_law_strewn" = some (some (.ref f35))) (l35 : K.lookup f35 = some ⟨oc35, od35, .func (PySem.W.fnOf "_law_strewn" "_law_strewn" (defArgs sStrewn) (defBody sStrewn) (defScope sStrewn) .none kV35 dc35 pm35 an35 cd35 ct35), sl35⟩) (c35 : PySem.W.codeIn K cd35 "_law_strewn" = true) (k35 : PySem.W.keepIn K (.ref f35) = true)
    (a36 : PySem.W.nsIn K mainGlobals "_law_left" = some (some (.ref f36))) (l36 : K.lookup f36 = some ⟨oc36, od36, .func (PySem.W.fnOf "_law_left" "_law_left" (defArgs sLeftL) (defBody sLeftL) (defScope sLeftL) .none kV36 dc36 pm36 an36 cd36 ct36), sl36⟩) (c36 : PySem.W.codeIn K cd36 "_law_left" = true) (k36 : PySem.W.keepIn K (.ref f36) = true)
    (a37 : PySem.W.nsIn K mainGlobals "_law_same" = some (some (.ref f37))) (l37 : K.lookup f37 = some ⟨oc37, od37, .func (PySem.W.fnOf "_law_same" "_law_same" (defArgs sSame) (defBody sSame) (defScope sSame) .none kV37 dc37 pm37 an37 cd37 ct37), sl37⟩) (c37 : PySem.W.codeIn K cd37 "_law_same" = true) (k37 : PySem.W.keepIn K (.ref f37) = true)
    (a38 : PySem.W.nsIn K mainGlobals "_law_asked" = some (some (.ref f38))) (l38 : K.lookup f38 = some ⟨oc38, od38, .func (PySem.W.fnOf "_law_asked" "_law_asked" (defArgs sAsk17) (defBody sAsk17) (defScope sAsk17) .none kV38 dc38 pm38 an38 cd38 ct38), sl38⟩) (c38 : PySem.W.codeIn K cd38 "_law_asked" = true) (k38 : PySem.W.keepIn K (.ref f38) = true)
    (a39 : PySem.W.nsIn K mainGlobals "_law_told" = some (some (.ref f39))) (l39 : K.lookup f39 = some ⟨oc39, od39, .func (PySem.W.fnOf "_law_told" "_law_told" (defArgs sTold) (defBody sTold) (defScope sTold) .none kV39 dc39 pm39 an39 cd39 ct39), sl39⟩) (c39 : PySem.W.codeIn K cd39 "_law_told" = true) (k39 : PySem.W.keepIn K (.ref f39) = true)
    (a40 : PySem.W.nsIn K mainGlobals "_law_right" = some (some (.ref f40))) (l40 : K.lookup f40 = some ⟨oc40, od40, .func (PySem.W.fnOf "_law_right" "_law_right" (defArgs sRight) (defBody sRight) (defScope sRight) .none kV40 dc40 pm40 an40 cd40 ct40), sl40⟩) (c40 : PySem.W.codeIn K cd40 "_law_right" = true) (k40 : PySem.W.keepIn K (.ref f40) = true)
    (a41 : PySem.W.nsIn K mainGlobals "law" = some (some (.ref f41))) (l41 : K.lookup f41 = some ⟨oc41, od41, .func (PySem.W.fnOf "law" "law" (defArgs sLaw) (defBody sLaw) (defScope sLaw) .none kV41 dc41 pm41 an41 cd41 ct41), sl41⟩) (c41 : PySem.W.codeIn K cd41 "law" = true) (k41 : PySem.W.keepIn K (.ref f41) = true)
    (z1 : PySem.W.nsIn K mainGlobals "len" = some none)
    (z2 : PySem.W.nsIn K mainGlobals "abs" = some none)
    (z3 : PySem.W.nsIn K mainGlobals "int" = some none)
    (z4 : PySem.W.nsIn K mainGlobals "list" = some none)
    (z5 : PySem.W.nsIn K mainGlobals "tuple" = some none)
    (z6 : PySem.W.nsIn K mainGlobals "enumerate" = some none)
    (z7 : PySem.W.nsIn K mainGlobals "range" = some none)
    (z8 : PySem.W.nsIn K mainGlobals "min" = some none)
    (z9 : PySem.W.nsIn K mainGlobals "max" = some none)
    (z10 : PySem.W.nsIn K mainGlobals "sorted" = some none)
    (z11 : PySem.W.nsIn K mainGlobals "isinstance" = some none)
    (z12 : PySem.W.nsIn K mainGlobals "zip" = some none)
    (z13 : PySem.W.nsIn K mainGlobals "all" = some none)
    (z14 : PySem.W.nsIn K mainGlobals "str" = some none)
    (z15 : PySem.W.nsIn K mainGlobals "bool" = some none)
    (z16 : PySem.W.nsIn K mainGlobals "any" = some none)
    (z17 : PySem.W.nsIn K mainGlobals "repr" = some none)
    (z18 : PySem.W.nsIn K mainGlobals "set" = some none)
    (z19 : PySem.W.nsIn K mainGlobals "sum" = some none)
    (z20 : PySem.W.nsIn K mainGlobals "reversed" = some none)
    (z21 : PySem.W.nsIn K mainGlobals "dict" = some none)
    {CStuck : Addr}
    (x0a : PySem.W.nsIn K mainGlobals "Stuck" = some (some (.ref CStuck)))
    (x0e : PySem.W.subIn K (.ref CStuck) (.type "BaseException") = some true)
    (x0f : PySem.W.typeIn K (.ref CStuck) = some (.type "type"))
    (x0g : PySem.W.isClsIn K CStuck = true)
    (x0h : PySem.W.subIn K (.ref CStuck) (.ref CStuck) = some true)
    (x0n : PySem.W.subIn K (.type "NoneType") (.ref CStuck) = some false)
    {fIStuck N0 : Addr} {nm0 q0_ : Str} {bs0 : List Value} {sn0 : List Str} {sub0 : List Value} {ab0 : Bool} {col0 : Option Bool} {dd0 : Option Addr} {m0_0 m0_1 m0_2 m0_3 m0_5 : Option Value} {od0X an0X : Option Addr} {sl0X : Array (Option Value)} {oc0X kV0X dc0X pm0X cd0X ct0X : Value}
    (x0b : K.lookup CStuck = some (excClassObj nm0 q0_ CStuck N0 bs0 (mroB "RuntimeError") true sn0 sub0 ab0 col0 dd0 m0_0 m0_1 m0_2 m0_3 m0_5 "RuntimeError.__new__"))
    (x0c : PySem.W.findIn K (.ref CStuck) "__setattr__" = some (some (.builtin "object.__setattr__")))
    (x0d : PySem.W.keepIn K (.ref CStuck) = true)
    (x0i : PySem.W.findIn K (.ref CStuck) "__init__" = some (some (.ref fIStuck)))
    (x0j : PySem.W.typeIn K (.ref fIStuck) = some (.type "function"))
    (x0k : K.lookup fIStuck = some ⟨oc0X, od0X, .func (PySem.W.fnOf "__init__" "Stuck.__init__" (defArgs sIStuck) (defBody sIStuck) (defScope sIStuck) .none kV0X dc0X pm0X an0X cd0X ct0X), sl0X⟩)
    (x0l : PySem.W.codeIn K cd0X "Stuck.__init__" = true)
    (x0m : PySem.W.keepIn K (.ref fIStuck) = true)
    (x0o : PySem.W.findCls K (.type "RuntimeError") (.type "type") "__init__" = some (.val (.builtin "RuntimeError.__init__")))
    (x0p : PySem.W.nsIn K mainGlobals "RuntimeError" = some none)
    (x0q : PySem.W.subIn K (.ref CStuck) (.type "RuntimeError") = some true)
    (x0r : PySem.W.findIn K (.ref CStuck) "__getattribute__" = some (some (.builtin "BaseException.__getattribute__")))
    (x0s : PySem.W.findIn K (.ref CStuck) "__getattr__" = some none)
    (x0t : PySem.W.hasDictIn K CStuck = true)
    (x0u : PySem.W.findIn K (.ref CStuck) "__class__" = some (some (.builtin "object.__class__")))
    (x0v : PySem.W.specialIn K (.builtin "object.__class__") "__get__" = some (some (.builtin "getset_descriptor.__get__")))
    (x0w : PySem.W.takesIn K (.builtin "object.__class__") = some true)
    (x0y : PySem.W.mroIn K CStuck (.type "object") = some true)
    (x0z_left : PySem.W.findIn K (.ref CStuck) "left" = some none)
    {CApart : Addr}
    (x1a : PySem.W.nsIn K mainGlobals "Apart" = some (some (.ref CApart)))
    (x1e : PySem.W.subIn K (.ref CApart) (.type "BaseException") = some true)
    (x1f : PySem.W.typeIn K (.ref CApart) = some (.type "type"))
    (x1g : PySem.W.isClsIn K CApart = true)
    (x1h : PySem.W.subIn K (.ref CApart) (.ref CApart) = some true)
    (x1n : PySem.W.subIn K (.type "NoneType") (.ref CApart) = some false)
    {CBare : Addr}
    (x2a : PySem.W.nsIn K mainGlobals "Bare" = some (some (.ref CBare)))
    (x2e : PySem.W.subIn K (.ref CBare) (.type "BaseException") = some true)
    (x2f : PySem.W.typeIn K (.ref CBare) = some (.type "type"))
    (x2g : PySem.W.isClsIn K CBare = true)
    (x2h : PySem.W.subIn K (.ref CBare) (.ref CBare) = some true)
    (x2n : PySem.W.subIn K (.type "NoneType") (.ref CBare) = some false)
    {CGone : Addr}
    (x3a : PySem.W.nsIn K mainGlobals "Gone" = some (some (.ref CGone)))
    (x3e : PySem.W.subIn K (.ref CGone) (.type "BaseException") = some true)
    (x3f : PySem.W.typeIn K (.ref CGone) = some (.type "type"))
    (x3g : PySem.W.isClsIn K CGone = true)
    (x3h : PySem.W.subIn K (.ref CGone) (.ref CGone) = some true)
    (x3n : PySem.W.subIn K (.type "NoneType") (.ref CGone) = some false)
    {CHere : Addr}
    (x4a : PySem.W.nsIn K mainGlobals "Here" = some (some (.ref CHere)))
    (x4e : PySem.W.subIn K (.ref CHere) (.type "BaseException") = some true)
    (x4f : PySem.W.typeIn K (.ref CHere) = some (.type "type"))
    (x4g : PySem.W.isClsIn K CHere = true)
    (x4h : PySem.W.subIn K (.ref CHere) (.ref CHere) = some true)
    (x4n : PySem.W.subIn K (.type "NoneType") (.ref CHere) = some false)
    {CKnown : Addr}
    (x5a : PySem.W.nsIn K mainGlobals "Known" = some (some (.ref CKnown)))
    (x5e : PySem.W.subIn K (.ref CKnown) (.type "BaseException") = some true)
    (x5f : PySem.W.typeIn K (.ref CKnown) = some (.type "type"))
    (x5g : PySem.W.isClsIn K CKnown = true)
    (x5h : PySem.W.subIn K (.ref CKnown) (.ref CKnown) = some true)
    (x5n : PySem.W.subIn K (.type "NoneType") (.ref CKnown) = some false)
    {CNoOrder : Addr}
    (x6a : PySem.W.nsIn K mainGlobals "NoOrder" = some (some (.ref CNoOrder)))
    (x6e : PySem.W.subIn K (.ref CNoOrder) (.type "BaseException") = some true)
    (x6f : PySem.W.typeIn K (.ref CNoOrder) = some (.type "type"))
    (x6g : PySem.W.isClsIn K CNoOrder = true)
    (x6h : PySem.W.subIn K (.ref CNoOrder) (.ref CNoOrder) = some true)
    (x6n : PySem.W.subIn K (.type "NoneType") (.ref CNoOrder) = some false)
    {CCount : Addr}
    (w0a : PySem.W.nsIn K mainGlobals "Count" = some (some (.ref CCount)))
    (w0p : PySem.W.plainGet K CCount Str.empty = true)
    (w0h : PySem.W.hasDictIn K CCount = true)
    (w0o : PySem.W.plainOver K CCount = true)
    (w0s : PySem.W.findIn K (.ref CCount) "__setattr__" = some (some (.builtin "object.__setattr__")))
    (w0m : PySem.W.makesIn K CCount = true)
    (w0k : PySem.W.keepIn K (.ref CCount) = true)
    (w0n_bits : PySem.W.findIn K (.ref CCount) "bits" = some none)
    (w0n_barrers : PySem.W.findIn K (.ref CCount) "barrers" = some none)
    (w0n_ways : PySem.W.findIn K (.ref CCount) "ways" = some none)
    {fO0_0 : Addr} {odO0_0 anO0_0 : Option Addr} {slO0_0 : Array (Option Value)} {ocO0_0 kVO0_0 dcO0_0 pmO0_0 cdO0_0 ctO0_0 : Value}
    (v0_0a : PySem.W.findIn K (.ref CCount) "__init__" = some (some (.ref fO0_0)))
    (v0_0i : PySem.W.isFn K (.ref fO0_0) = true)
    (v0_0l : K.lookup fO0_0 = some ⟨ocO0_0, odO0_0, .func (PySem.W.fnOf "__init__" "Count.__init__" (defArgs sCI) (defBody sCI) (defScope sCI) .none kVO0_0 dcO0_0 pmO0_0 anO0_0 cdO0_0 ctO0_0), slO0_0⟩)
    (v0_0c : PySem.W.codeIn K cdO0_0 "Count.__init__" = true)
    (v0_0k : PySem.W.keepIn K (.ref fO0_0) = true)
    {fO0_1 : Addr} {odO0_1 anO0_1 : Option Addr} {slO0_1 : Array (Option Value)} {ocO0_1 kVO0_1 dcO0_1 pmO0_1 cdO0_1 ctO0_1 : Value}
    (v0_1a : PySem.W.findIn K (.ref CCount) "ways_by_next" = some (some (.ref fO0_1)))
    (v0_1i : PySem.W.isFn K (.ref fO0_1) = true)
    (v0_1l : K.lookup fO0_1 = some ⟨ocO0_1, odO0_1, .func (PySem.W.fnOf "ways_by_next" "Count.ways_by_next" (defArgs sWB) (defBody sWB) (defScope sWB) .none kVO0_1 dcO0_1 pmO0_1 anO0_1 cdO0_1 ctO0_1), slO0_1⟩)
    (v0_1c : PySem.W.codeIn K cdO0_1 "Count.ways_by_next" = true)
    (v0_1k : PySem.W.keepIn K (.ref fO0_1) = true)
    {fO0_2 : Addr} {odO0_2 anO0_2 : Option Addr} {slO0_2 : Array (Option Value)} {ocO0_2 kVO0_2 dcO0_2 pmO0_2 cdO0_2 ctO0_2 : Value}
    (v0_2a : PySem.W.findIn K (.ref CCount) "next_of_number" = some (some (.ref fO0_2)))
    (v0_2i : PySem.W.isFn K (.ref fO0_2) = true)
    (v0_2l : K.lookup fO0_2 = some ⟨ocO0_2, odO0_2, .func (PySem.W.fnOf "next_of_number" "Count.next_of_number" (defArgs sNN) (defBody sNN) (defScope sNN) .none kVO0_2 dcO0_2 pmO0_2 anO0_2 cdO0_2 ctO0_2), slO0_2⟩)
    (v0_2c : PySem.W.codeIn K cdO0_2 "Count.next_of_number" = true)
    (v0_2k : PySem.W.keepIn K (.ref fO0_2) = true)
    (y0_1 : PySem.W.subIn K (.ref CStuck) (.ref CApart) = some false)
    (y0_2 : PySem.W.subIn K (.ref CStuck) (.ref CBare) = some false)
    (y0_3 : PySem.W.subIn K (.ref CStuck) (.ref CGone) = some false)
    (y0_4 : PySem.W.subIn K (.ref CStuck) (.ref CHere) = some false)
    (y0_5 : PySem.W.subIn K (.ref CStuck) (.ref CKnown) = some false)
    (y0_6 : PySem.W.subIn K (.ref CStuck) (.ref CNoOrder) = some false)
    : ∃ fd : FuncData, (∀ (s : Shared) (v : Value), BindsTo s fd ⟨[v], []⟩ [("_law_script", v)]) ∧ ∀ base : Heap, K.In base → base.Ns mainGlobals mg → FnOk l.prog w K mg base CX0 13 fa fd ["_law_script"] (spLaw K) := by
  have e := hfa.symm.trans (PySem.W.mg_of XK G a41)
  cases e
  have FBo := fun_mk (st := sBoth) l1 c1 k1
  have gBo := PySem.W.mg_of XK G a1
  have bBo := FBo.binds (ps := ["friends"]) fun _ _ _ _ _ _ us hl => match us, hl with | [_], _ => rfl
  have FL := fun_mk (st := sLfp) l2 c2 k2
  have gL := PySem.W.mg_of XK G a2
  have bL := FL.binds (ps := ["known", "row", "who"]) fun _ _ _ _ _ _ us hl => match us, hl with | [_, _, _], _ => rfl
  have FBw := fun_mk (st := sBarW) l3 c3 k3
  have gBw := PySem.W.mg_of XK G a3
  have bBw := FBw.binds (ps := ["known", "row", "one", "other"]) fun _ _ _ _ _ _ us hl => match us, hl with | [_, _, _, _], _ => rfl
  have FBi := fun_mk (st := sBarredIn) l4 c4 k4
  have gBi := PySem.W.mg_of XK G a4
  have bBi := FBi.binds (ps := ["friends", "row"]) fun _ _ _ _ _ _ us hl => match us, hl with | [_, _], _ => rfl
  have FKept := fun_mk (st := sKept) l5 c5 k5
  have gKept := PySem.W.mg_of XK G a5
  have bKept := FKept.binds (ps := ["thing"]) fun _ _ _ _ _ _ us hl => match us, hl with | [_], _ => rfl
  have FLa := fun_mk (st := sLooseAt) l6 c6 k6
  have gLa := PySem.W.mg_of XK G a6
  have bLa := FLa.binds (ps := ["known", "row", "place"]) fun _ _ _ _ _ _ us hl => match us, hl with | [_, _, _], _ => rfl
  have FHl := fun_mk (st := sHind) l7 c7 k7
  have gHl := PySem.W.mg_of XK G a7
  have bHl := FHl.binds (ps := ["known", "row", "but"]) fun _ _ _ _ _ _ us hl => match us, hl with | [_, _, _], _ => rfl
  have FGs := fun_mk (st := sStayed) l8 c8 k8
  have gGs := PySem.W.mg_of XK G a8
  have bGs := FGs.binds (ps := ["known", "row", "but"]) fun _ _ _ _ _ _ us hl => match us, hl with | [_, _, _], _ => rfl
  have FGl := fun_mk (st := sGone) l9 c9 k9
  have gGl := PySem.W.mg_of XK G a9
  have bGl := FGl.binds (ps := ["friends", "row", "but"]) fun _ _ _ _ _ _ us hl => match us, hl with | [_, _, _], _ => rfl
  have FSo := fun_mk (st := sSomeO) l10 c10 k10
  have gSo := PySem.W.mg_of XK G a10
  have bSo := FSo.binds (ps := ["friends", "row"]) fun _ _ _ _ _ _ us hl => match us, hl with | [_, _], _ => rfl
  have FBitsOf := fun_mk (st := sBitsOf) l11 c11 k11
  have gBitsOf := PySem.W.mg_of XK G a11
  have bBitsOf := FBitsOf.binds (ps := ["row"]) fun _ _ _ _ _ _ us hl => match us, hl with | [_], _ => rfl
  have FBarr := fun_mk (st := sBarr) l12 c12 k12
  have gBarr := PySem.W.mg_of XK G a12
  have bBarr := FBarr.binds (ps := ["friends", "row", "bits"]) fun _ _ _ _ _ _ us hl => match us, hl with | [_, _, _], _ => rfl
  have FNo := fun_mk (st := sNextO) l13 c13 k13
  have gNo := PySem.W.mg_of XK G a13
  have bNo := FNo.binds (ps := ["bits", "barrers", "bunch"]) fun _ _ _ _ _ _ us hl => match us, hl with | [_, _, _], _ => rfl
  have FBunch := fun_mk (st := sBunch) l14 c14 k14
  have gBunch := PySem.W.mg_of XK G a14
  have bBunch := FBunch.binds (ps := ["bits", "barrers"]) fun _ _ _ _ _ _ us hl => match us, hl with | [_, _], _ => rfl
  have FHM := fun_mk (st := sHM) l15 c15 k15
  have gHM := PySem.W.mg_of XK G a15
  have bHM := FHM.binds (ps := ["friends", "row"]) fun _ _ _ _ _ _ us hl => match us, hl with | [_, _], _ => rfl
  have FNth := fun_mk (st := sNthO) l16 c16 k16
  have gNth := PySem.W.mg_of XK G a16
  have bNth := FNth.binds (ps := ["friends", "row", "number"]) fun _ _ _ _ _ _ us hl => match us, hl with | [_, _, _], _ => rfl
  have FCb := fun_mk (st := sCameB) l17 c17 k17
  have gCb := PySem.W.mg_of XK G a17
  have bCb := FCb.binds (ps := ["friends", "row"]) fun _ _ _ _ _ _ us hl => match us, hl with | [_, _], _ => rfl
  have FNa := fun_mk (st := sNeeded) l18 c18 k18
  have gNa := PySem.W.mg_of XK G a18
  have bNa := FNa.binds (ps := ["behind", "who"]) fun _ _ _ _ _ _ us hl => match us, hl with | [_, _], _ => rfl
  have FErl := fun_mk (st := sErl) l19 c19 k19
  have gErl := PySem.W.mg_of XK G a19
  have bErl := FErl.binds (ps := ["friends", "row", "who"]) fun _ _ _ _ _ _ us hl => match us, hl with | [_, _, _], _ => rfl
  have FLat := fun_mk (st := sLat) l20 c20 k20
  have gLat := PySem.W.mg_of XK G a20
  have bLat := FLat.binds (ps := ["friends", "row", "who"]) fun _ _ _ _ _ _ us hl => match us, hl with | [_, _, _], _ => rfl
  have FEOr := fun_mk (st := sEOr) l21 c21 k21
  have gEOr := PySem.W.mg_of XK G a21
  have bEOr := FEOr.binds (ps := ["friends", "row", "who"]) fun _ _ _ _ _ _ us hl => match us, hl with | [_, _, _], _ => rfl
  have FLOr := fun_mk (st := sLOr) l22 c22 k22
  have gLOr := PySem.W.mg_of XK G a22
  have bLOr := FLOr.binds (ps := ["friends", "row", "who"]) fun _ _ _ _ _ _ us hl => match us, hl with | [_, _, _], _ => rfl
  have FAhd := fun_mk (st := sAhead) l23 c23 k23
  have gAhd := PySem.W.mg_of XK G a23
  have bAhd := FAhd.binds (ps := ["friends", "row"]) fun _ _ _ _ _ _ us hl => match us, hl with | [_, _], _ => rfl
  have FNxt := fun_mk (st := sNextT) l24 c24 k24
  have gNxt := PySem.W.mg_of XK G a24
  have bNxt := FNxt.binds (ps := ["barred", "behind", "who", "other"]) fun _ _ _ _ _ _ us hl => match us, hl with | [_, _, _, _], _ => rfl
  have FChn := fun_mk (st := sChain) l25 c25 k25
  have gChn := PySem.W.mg_of XK G a25
  have bChn := FChn.binds (ps := ["friends", "row", "one", "other"]) fun _ _ _ _ _ _ us hl => match us, hl with | [_, _, _, _], _ => rfl
  have FHu := fun_mk (st := sHung) l26 c26 k26
  have gHu := PySem.W.mg_of XK G a26
  have bHu := FHu.binds (ps := ["friends", "row"]) fun _ _ _ _ _ _ us hl => match us, hl with | [_, _], _ => rfl
  have FBb := fun_mk (st := sBounds) l27 c27 k27
  have gBb := PySem.W.mg_of XK G a27
  have bBb := FBb.binds (ps := ["friends", "row"]) fun _ _ _ _ _ _ us hl => match us, hl with | [_, _], _ => rfl
  have FX := fun_mk (st := sBox) l28 c28 k28
  have gX := PySem.W.mg_of XK G a28
  have bX := FX.binds (ps := ["_law_cells_here", "_law_k"]) fun _ _ _ _ _ _ us hl => match us, hl with | [_, _], _ => rfl
  have FT := fun_mk (st := sTake) l29 c29 k29
  have gT := PySem.W.mg_of XK G a29
  have bT := FT.binds (ps := ["_law_box_here", "_law_many"]) fun _ _ _ _ _ _ us hl => match us, hl with | [_, _], _ => rfl
  have FC := fun_mk (st := sCells) l30 c30 k30
  have gC := PySem.W.mg_of XK G a30
  have bC := FC.binds (ps := ["_law_script", "_law_utmost"]) fun _ _ _ _ _ _ us hl => match us, hl with | [_, _], _ => rfl
  have FN := fun_mk (st := sNames) l31 c31 k31
  have gN := PySem.W.mg_of XK G a31
  have bN := FN.binds (ps := ["_law_box_here", "_law_many"]) fun _ _ _ _ _ _ us hl => match us, hl with | [_, _], _ => rfl
  have FP := fun_mk (st := sPals) l32 c32 k32
  have gP := PySem.W.mg_of XK G a32
  have bP := FP.binds (ps := ["_law_box_here", "_law_pool"]) fun _ _ _ _ _ _ us hl => match us, hl with | [_, _], _ => rfl
  have FA := fun_mk (st := sAre) l33 c33 k33
  have gA := PySem.W.mg_of XK G a33
  have bA := FA.binds (ps := ["_law_pals_here", "_law_mine", "_law_its"]) fun _ _ _ _ _ _ us hl => match us, hl with | [_, _, _], _ => rfl
  have FCo := fun_mk (st := sCome) l34 c34 k34
  have gCo := PySem.W.mg_of XK G a34
  have bCo := FCo.binds (ps := ["_law_pals_here", "_law_stand", "_law_name"]) fun _ _ _ _ _ _ us hl => match us, hl with | [_, _, _], _ => rfl
  have FW := fun_mk (st := sStrewn) l35 c35 k35
  have gW := PySem.W.mg_of XK G a35
  have bW := FW.binds (ps := ["_law_box_here", "_law_some"]) fun _ _ _ _ _ _ us hl => match us, hl with | [_, _], _ => rfl
  have FLft := fun_mk (st := sLeftL) l36 c36 k36
  have gLft := PySem.W.mg_of XK G a36
  have bLft := FLft.binds (ps := ["_law_pals_here", "_law_stand"]) fun _ _ _ _ _ _ us hl => match us, hl with | [_, _], _ => rfl
  have FSa := fun_mk (st := sSame) l37 c37 k37
  have gSa := PySem.W.mg_of XK G a37
  have bSa := FSa.binds (ps := ["_law_found", "_law_due"]) fun _ _ _ _ _ _ us hl => match us, hl with | [_, _], _ => rfl
  have FAsk17 := fun_mk (st := sAsk17) l38 c38 k38
  have gAsk17 := PySem.W.mg_of XK G a38
  have bAsk17 := FAsk17.binds (ps := ["_law_pals_here", "_law_stand", "_law_way", "_law_name", "_law_last", "_law_number"]) fun _ _ _ _ _ _ us hl => match us, hl with | [_, _, _, _, _, _], _ => rfl
  have FTd := fun_mk (st := sTold) l39 c39 k39
  have gTd := PySem.W.mg_of XK G a39
  have bTd := FTd.binds (ps := ["_law_pals_here", "_law_stand", "_law_way", "_law_name", "_law_last", "_law_number"]) fun _ _ _ _ _ _ us hl => match us, hl with | [_, _, _, _, _, _], _ => rfl
  have FR := fun_mk (st := sRight) l40 c40 k40
  have gR := PySem.W.mg_of XK G a40
  have bR := FR.binds (ps := ["_law_box_here"]) fun _ _ _ _ _ _ us hl => match us, hl with | [_], _ => rfl
  have FLaw := fun_mk (st := sLaw) l41 c41 k41
  have gLaw := PySem.W.mg_of XK G a41
  have bLaw := FLaw.binds (ps := ["_law_script"]) fun _ _ _ _ _ _ us hl => match us, hl with | [_], _ => rfl
  have B : Blt mg := ⟨PySem.W.mg_none_of XK G z1, PySem.W.mg_none_of XK G z2, PySem.W.mg_none_of XK G z3, PySem.W.mg_none_of XK G z4, PySem.W.mg_none_of XK G z5, PySem.W.mg_none_of XK G z6, PySem.W.mg_none_of XK G z7, PySem.W.mg_none_of XK G z8, PySem.W.mg_none_of XK G z9, PySem.W.mg_none_of XK G z10, PySem.W.mg_none_of XK G z11, PySem.W.mg_none_of XK G z12, PySem.W.mg_none_of XK G z13, PySem.W.mg_none_of XK G z14, PySem.W.mg_none_of XK G z15, PySem.W.mg_none_of XK G z16, PySem.W.mg_none_of XK G z17, PySem.W.mg_none_of XK G z18, PySem.W.mg_none_of XK G z19, PySem.W.mg_none_of XK G z20, PySem.W.mg_none_of XK G z21⟩
  refine ⟨PySem.W.fnOf "law" "law" (defArgs sLaw) (defBody sLaw) (defScope sLaw) .none kV41 dc41 pm41 an41 cd41 ct41, fun s v => .of_eq rfl, fun base _ _ => ?_⟩
  have TStuck : OwnK K mg "Stuck" "RuntimeError" "RuntimeError.__new__" "RuntimeError.__init__" "RuntimeError" CStuck fIStuck := { g := PySem.W.mg_of XK G x0a, is := x0g, ty := x0f, ex := x0e, self := x0h, non := x0n, O := { cls := ⟨nm0, q0_, N0, bs0, sn0, sub0, ab0, col0, dd0, m0_0, m0_1, m0_2, m0_3, m0_5, x0b⟩, sa := x0c, exC := x0e, tyC := x0f, kC := x0d }, iC := x0i, tI := x0j, E := { hg := x0r, hk := x0s, hs := x0e, hd := x0t, ha := x0u, hn := x0v, ht := x0w, hm := x0y }, vB := x0o, nB := PySem.W.mg_none_of XK G x0p, sB := x0q }
  have noStuck_left := x0z_left
  have FFStuck := fun_mk (st := sIStuck) x0k x0l x0m
  have bIStuck := FFStuck.binds (ps := nIStuck) fun _ _ _ _ _ _ us hl => match us, hl with | [_, _], _ => rfl
  have TApart : ClsK K mg "Apart" CApart := { g := PySem.W.mg_of XK G x1a, is := x1g, ty := x1f, ex := x1e, self := x1h, non := x1n }
  have TBare : ClsK K mg "Bare" CBare := { g := PySem.W.mg_of XK G x2a, is := x2g, ty := x2f, ex := x2e, self := x2h, non := x2n }
  have TGone : ClsK K mg "Gone" CGone := { g := PySem.W.mg_of XK G x3a, is := x3g, ty := x3f, ex := x3e, self := x3h, non := x3n }
  have THere : ClsK K mg "Here" CHere := { g := PySem.W.mg_of XK G x4a, is := x4g, ty := x4f, ex := x4e, self := x4h, non := x4n }
  have TKnown : ClsK K mg "Known" CKnown := { g := PySem.W.mg_of XK G x5a, is := x5g, ty := x5f, ex := x5e, self := x5h, non := x5n }
  have TNoOrder : ClsK K mg "NoOrder" CNoOrder := { g := PySem.W.mg_of XK G x6a, is := x6g, ty := x6f, ex := x6e, self := x6h, non := x6n }
  have nStuck_Apart := y0_1
  have nStuck_Bare := y0_2
  have nStuck_Gone := y0_3
  have nStuck_Here := y0_4
  have nStuck_Known := y0_5
  have nStuck_NoOrder := y0_6
  have oCount : Cls K CCount := ⟨w0p, w0h, w0o, w0s⟩
  have gCount := PySem.W.mg_of XK G w0a
  have nCount_bits : NoAttr K CCount "bits" := w0n_bits
  have nCount_barrers : NoAttr K CCount "barrers" := w0n_barrers
  have nCount_ways : NoAttr K CCount "ways" := w0n_ways
  have FCount___init__ := fun_mk (st := sCI) v0_0l v0_0c v0_0k
  have bCount___init__ := FCount___init__.binds (ps := ["self", "friends", "row"]) fun _ _ _ _ _ _ us hl => match us, hl with | [_, _, _], _ => rfl
  have kCount : Mk K CCount fO0_0 := ⟨w0m, v0_0a, v0_0i, w0k⟩
  have FCount_ways_by_next := fun_mk (st := sWB) v0_1l v0_1c v0_1k
  have bCount_ways_by_next := FCount_ways_by_next.binds (ps := ["self", "bunch"]) fun _ _ _ _ _ _ us hl => match us, hl with | [_, _], _ => rfl
  have mCount_ways_by_next : Meth K CCount "ways_by_next" fO0_1 := ⟨v0_1a, v0_1i, v0_1k⟩
  have FCount_next_of_number := fun_mk (st := sNN) v0_2l v0_2c v0_2k
  have bCount_next_of_number := FCount_next_of_number.binds (ps := ["self", "bunch", "number"]) fun _ _ _ _ _ _ us hl => match us, hl with | [_, _, _], _ => rfl
  have mCount_next_of_number : Meth K CCount "next_of_number" fO0_2 := ⟨v0_2a, v0_2i, v0_2k⟩
  have cBo : Cal l.prog w K mg base 1 "both_ways" _ spBoth := ⟨_, _, ok_both FBo, gBo, FBo.kp, bBo⟩
  have cL : Cal l.prog w K mg base 1 "last_friend_place" _ spLfp := ⟨_, _, ok_lfp B FL, gL, FL.kp, bL⟩
  have cBw : Cal l.prog w K mg base 2 "bar_words" _ spBarW := ⟨_, _, ok_barW cL FBw, gBw, FBw.kp, bBw⟩
  have cBi : Cal l.prog w K mg base 3 "barred_in" _ spBarredIn := ⟨_, _, ok_barredIn cBo cBw FBi, gBi, FBi.kp, bBi⟩
  have cKept : Cal l.prog w K mg base 1 "kept" _ spKept := ⟨_, _, ok_kept B FKept, gKept, FKept.kp, bKept⟩
  have cLa : Cal l.prog w K mg base 2 "loose_at" _ spLooseAt := ⟨_, _, ok_looseAt B cL FLa, gLa, FLa.kp, bLa⟩
  have cHl : Cal l.prog w K mg base 3 "hindmost_loose" _ (spHind K) := ⟨_, _, ok_hind B cLa FHl, gHl, FHl.kp, bHl⟩
  have cGs : Cal l.prog w K mg base 4 "gone_and_stayed" _ (spStayed K) := ⟨_, _, ok_stayed B cHl FGs, gGs, FGs.kp, bGs⟩
  have cGl : Cal l.prog w K mg base 5 "gone_and_left" _ (spGone K) := ⟨_, _, ok_gone cBo cGs FGl, gGl, FGl.kp, bGl⟩
  have cSo : Cal l.prog w K mg base 6 "some_order" _ spSomeO := ⟨_, _, ok_someO cGl FSo, gSo, FSo.kp, bSo⟩
  have cBitsOf : Cal l.prog w K mg base 1 "bits_of" _ spBitsOf := ⟨_, _, ok_bitsOf B FBitsOf, gBitsOf, FBitsOf.kp, bBitsOf⟩
  have cBarr : Cal l.prog w K mg base 4 "barrers_of" _ spBarr := ⟨_, _, ok_barr B cBi FBarr, gBarr, FBarr.kp, bBarr⟩
  have cNo : Cal l.prog w K mg base 1 "next_ones" _ spNextO := ⟨_, _, ok_nextO B FNo, gNo, FNo.kp, bNo⟩
  have cBunch : Cal l.prog w K mg base 2 "bunches_by_size" _ spBunch := ⟨_, _, ok_bunch B cNo FBunch, gBunch, FBunch.kp, bBunch⟩
  have cCb : Cal l.prog w K mg base 7 "came_behind" _ spCameB := ⟨_, _, ok_cameB B cSo cBi FCb, gCb, FCb.kp, bCb⟩
  have cNa : Cal l.prog w K mg base 1 "needed_ahead" _ spNeeded := ⟨_, _, ok_needed FNa, gNa, FNa.kp, bNa⟩
  have cErl : Cal l.prog w K mg base 8 "earliest" _ spErl := ⟨_, _, ok_erl B cCb cNa FErl, gErl, FErl.kp, bErl⟩
  have cLat : Cal l.prog w K mg base 8 "latest" _ spLat := ⟨_, _, ok_lat B cCb FLat, gLat, FLat.kp, bLat⟩
  have cEOr : Cal l.prog w K mg base 8 "early_order" _ spEOr := ⟨_, _, ok_eOr B cCb cNa cSo FEOr, gEOr, FEOr.kp, bEOr⟩
  have cLOr : Cal l.prog w K mg base 8 "late_order" _ spLOr := ⟨_, _, ok_lOr B cCb cSo FLOr, gLOr, FLOr.kp, bLOr⟩
  have cAhd : Cal l.prog w K mg base 8 "came_ahead" _ spAhead := ⟨_, _, ok_ahead B ⟨_, _, ok_cameN B cSo cBi FCb, gCb, FCb.kp, bCb⟩ FAhd, gAhd, FAhd.kp, bAhd⟩
  have cNxt : Cal l.prog w K mg base 1 "next_towards" _ spNextT := ⟨_, _, ok_nextT B FNxt, gNxt, FNxt.kp, bNxt⟩
  have cChn : Cal l.prog w K mg base 8 "chain_of" _ spChain := ⟨_, _, ok_chain B cBw cBi cBo cCb cNxt FChn, gChn, FChn.kp, bChn⟩
  have cHu : Cal l.prog w K mg base 7 "hung" _ spHung := ⟨_, _, ok_hung B cSo cBo cL FHu, gHu, FHu.kp, bHu⟩
  have cBb : Cal l.prog w K mg base 8 "put_back_bounds" _ spBounds := ⟨_, _, ok_bounds B cCb cNa FBb, gBb, FBb.kp, bBb⟩
  have cX : Cal l.prog w K mg base 1 "_law_box" _ spBox := ⟨_, _, ok_box B FX, gX, FX.kp, bX⟩
  have cT : Cal l.prog w K mg base 1 "_law_take" _ spTake := ⟨_, _, ok_take FT, gT, FT.kp, bT⟩
  have cC : Cal l.prog w K mg base 1 "_law_cells" _ (spCells K) := ⟨_, _, ok_cells B FC, gC, FC.kp, bC⟩
  have cN : Cal l.prog w K mg base 2 "_law_names" _ spNames := ⟨_, _, ok_names B cT FN, gN, FN.kp, bN⟩
  have cP : Cal l.prog w K mg base 2 "_law_pals" _ spPals := ⟨_, _, ok_pals B cT FP, gP, FP.kp, bP⟩
  have cA : Cal l.prog w K mg base 1 "_law_are" _ spAre := ⟨_, _, ok_are B FA, gA, FA.kp, bA⟩
  have cCo : Cal l.prog w K mg base 2 "_law_come" _ spCome := ⟨_, _, ok_come B cA FCo, gCo, FCo.kp, bCo⟩
  have cW : Cal l.prog w K mg base 2 "_law_strewn" _ spStrewn := ⟨_, _, ok_strewn B cT FW, gW, FW.kp, bW⟩
  have cLft : Cal l.prog w K mg base 3 "_law_left" _ spLeft17 := ⟨_, _, ok_left17 B cCo FLft, gLft, FLft.kp, bLft⟩
  have cSa : Cal l.prog w K mg base 1 "_law_same" _ (spSame17 K) := ⟨_, _, ok_same17 B FSa, gSa, FSa.kp, bSa⟩
  have FIStuck := ok_iStuck (P := l.prog) (w := w) (base := base) TStuck noStuck_left cKept FFStuck
  have tCount : TxtC K CCount := ⟨oCount, nCount_bits, nCount_barrers, nCount_ways⟩
  have cWB : CalM l.prog w K mg base 2 CCount "ways_by_next" _ (spWB CCount) := ⟨oCount, _, _, ok_wB tCount cNo FCount_ways_by_next, mCount_ways_by_next, bCount_ways_by_next⟩
  have cNN : CalM l.prog w K mg base 3 CCount "next_of_number" _ (spNN CCount) := ⟨oCount, _, _, ok_nN cWB FCount_next_of_number, mCount_next_of_number, bCount_next_of_number⟩
  have cCI : CalN l.prog w K mg base 7 "Count" CCount _ (spCI CCount) := ⟨oCount, gCount, _, _, ok_cI B tCount cBarr cBitsOf cBunch cSo cWB FCount___init__, kCount, bCount___init__⟩
  have cSoX : CalX l.prog w K mg base 6 "some_order" _ (spSomeX CStuck) := ⟨_, _, ok_someX TStuck FIStuck bIStuck cGl FSo, gSo, FSo.kp, bSo⟩
  have cCIX : CalNX l.prog w K mg base 7 "Count" CCount _ (spCIX CCount CStuck) := ⟨oCount, gCount, _, _, ok_cIX cSoX FCount___init__, kCount, bCount___init__⟩
  have cCbX : CalX l.prog w K mg base 7 "came_behind" _ (spStk 0 CStuck) := ⟨_, _, ok_xCameB B cSoX FCb, gCb, FCb.kp, bCb⟩
  have cHuB : CalX l.prog w K mg base 7 "hung" _ (orX 0 CStuck spHung) := ⟨_, _, (ok_hung B cSo cBo cL FHu).toX.or (ok_xHung B cSoX FHu), gHu, FHu.kp, bHu⟩
  have cErlB : CalX l.prog w K mg base 8 "earliest" _ (orX 1 CStuck spErl) := ⟨_, _, (ok_erl B cCb cNa FErl).toX.or (ok_xErl B cCbX cNa FErl), gErl, FErl.kp, bErl⟩
  have cLatB : CalX l.prog w K mg base 8 "latest" _ (orX 1 CStuck spLat) := ⟨_, _, (ok_lat B cCb FLat).toX.or (ok_xLat B cCbX FLat), gLat, FLat.kp, bLat⟩
  have cEOrB : CalX l.prog w K mg base 8 "early_order" _ (orX 1 CStuck spEOr) := ⟨_, _, (ok_eOr B cCb cNa cSo FEOr).toX.or (ok_xEOr B cCbX cNa FEOr), gEOr, FEOr.kp, bEOr⟩
  have cLOrB : CalX l.prog w K mg base 8 "late_order" _ (orX 1 CStuck spLOr) := ⟨_, _, (ok_lOr B cCb cSo FLOr).toX.or (ok_xLOr B cCbX FLOr), gLOr, FLOr.kp, bLOr⟩
  have cAhdB : CalX l.prog w K mg base 8 "came_ahead" _ (orX 0 CStuck spAhead) := ⟨_, _, (ok_ahead B ⟨_, _, ok_cameN B cSo cBi FCb, gCb, FCb.kp, bCb⟩ FAhd).toX.or (ok_xAhead B cCbX FAhd), gAhd, FAhd.kp, bAhd⟩
  have cChnB : CalX l.prog w K mg base 8 "chain_of" _ (orX 2 CStuck spChain) := ⟨_, _, (ok_chain B cBw cBi cBo cCb cNxt FChn).toX.or (ok_xChain B cCbX FChn), gChn, FChn.kp, bChn⟩
  have cBbB : CalX l.prog w K mg base 8 "put_back_bounds" _ (orX 0 CStuck spBounds) := ⟨_, _, (ok_bounds B cCb cNa FBb).toX.or (ok_xBounds B cCbX FBb), gBb, FBb.kp, bBb⟩
  have cHMB : CalX l.prog w K mg base 9 "how_many" _ (fun vs H Q E => spHM vs H Q E ∨ spSomeX CStuck vs H Q E) := ⟨_, _, (ok_hM tCount cCI FHM).toX.or (ok_hMX cCIX FHM), gHM, FHM.kp, bHM⟩
  have cNthB : CalX l.prog w K mg base 9 "nth_order" _ (orX 1 CStuck spNthO) := ⟨_, _, (ok_nthO B tCount cCI cNN FNth).toX.or (ok_xNth cCIX FNth), gNth, FNth.kp, bNth⟩
  have cAsk : CalX l.prog w K mg base 10 "_law_asked" _ (spAsk17 CStuck) := ⟨_, _, ok_ask17 cAhdB cChnB cErlB cEOrB cHMB cHuB cLOrB cLatB cNthB cBbB FAsk17, gAsk17, FAsk17.kp, bAsk17⟩
  have cTdX : Cal l.prog w K mg base 11 "_law_told" _ spTold17 := ⟨_, _, ok_told17 B TApart TBare TGone THere TKnown TNoOrder TStuck noStuck_left nStuck_Apart nStuck_Bare nStuck_Gone nStuck_Here nStuck_Known nStuck_NoOrder cAsk FTd, gTd, FTd.kp, bTd⟩
  have cR : Cal l.prog w K mg base 12 "_law_right" _ spRight := ⟨_, _, ok_right B cLft cN cP cSa cW cT cTdX FR, gR, FR.kp, bR⟩
  exact ok_law B cC cX cR FLaw
end Lk
open PySem PySem.W PyProof.Rows
set_option maxRecDepth 100000 in
set_option maxHeartbeats 0 in
theorem PySem.Challenge.cw_letinrow_k17_asked_of_rows_without_an_or_holds : PySem.Challenge.rw_letinrow_k17_asked_of_rows_without_an_or.Holds := by
  w_on; o_law; k_head; (case hw => w_witness2)
  k_fill
  refine Lk.walk_law (l := PySem.Challenge.rw_letinrow_k17_asked_of_rows_without_an_or) (n := 63) (k := 13) (x := "_law_script") (sp := fun w => Lk.spLaw _) rfl (by decide) rfl ⟨rfl, by decide, by decide⟩ (fun w h Y => PySem.W.kIn_of Y) ?F (fun _ _ a ns hl hS => ⟨a, ns, rfl, hS, hl, fun _ => rfl⟩)
  case F =>
    intro w mg fa h KX G hmg
    refine' Lk.all_mk KX G hmg ?a1 ?l1 ?c1 ?k1 ?a2 ?l2 ?c2 ?k2 ?a3 ?l3 ?c3 ?k3 ?a4 ?l4 ?c4 ?k4 ?a5 ?l5 ?c5 ?k5 ?a6 ?l6 ?c6 ?k6 ?a7 ?l7 ?c7 ?k7 ?a8 ?l8 ?c8 ?k8 ?a9 ?l9 ?c9 ?k9 ?a10 ?l10 ?c10 ?k10 ?a11 ?l11 ?c11 ?k11 ?a12 ?l12 ?c12 ?k12 ?a13 ?l13 ?c13 ?k13 ?a14 ?l14 ?c14 ?k14 ?a15 ?l15 ?c15 ?k15 ?a16 ?l16 ?c16 ?k16 ?a17 ?l17 ?c17 ?k17 ?a18 ?l18 ?c18 ?k18 ?a19 ?l19 ?c19 ?k19 ?a20 ?l20 ?c20 ?k20 ?a21 ?l21 ?c21 ?k21 ?a22 ?l22 ?c22 ?k22 ?a23 ?l23 ?c23 ?k23 ?a24 ?l24 ?c24 ?k24 ?a25 ?l25 ?c25 ?k25 ?a26 ?l26 ?c26 ?k26 ?a27 ?l27 ?c27 ?k27 ?a28 ?l28 ?c28 ?k28 ?a29 ?l29 ?c29 ?k29 ?a30 ?l30 ?c30 ?k30 ?a31 ?l31 ?c31 ?k31 ?a32 ?l32 ?c32 ?k32 ?a33 ?l33 ?c33 ?k33 ?a34 ?l34 ?c34 ?k34 ?a35 ?l35 ?c35 ?k35 ?a36 ?l36 ?c36 ?k36 ?a37 ?l37 ?c37 ?k37 ?a38 ?l38 ?c38 ?k38 ?a39 ?l39 ?c39 ?k39 ?a40 ?l40 ?c40 ?k40 ?a41 ?l41 ?c41 ?k41 ?z1 ?z2 ?z3 ?z4 ?z5 ?z6 ?z7 ?z8 ?z9 ?z10 ?z11 ?z12 ?z13 ?z14 ?z15 ?z16 ?z17 ?z18 ?z19 ?z20 ?z21 ?x0a ?x0e ?x0f ?x0g ?x0h ?x0n ?x0b ?x0c ?x0d ?x0i ?x0j ?x0k ?x0l ?x0m ?x0o ?x0p ?x0q ?x0r ?x0s ?x0t ?x0u ?x0v ?x0w ?x0y ?x0z_left ?x1a ?x1e ?x1f ?x1g ?x1h ?x1n ?x2a ?x2e ?x2f ?x2g ?x2h ?x2n ?x3a ?x3e ?x3f ?x3g ?x3h ?x3n ?x4a ?x4e ?x4f ?x4g ?x4h ?x4n ?x5a ?x5e ?x5f ?x5g ?x5h ?x5n ?x6a ?x6e ?x6f ?x6g ?x6h ?x6n ?w0a ?w0p ?w0h ?w0o ?w0s ?w0m ?w0k ?w0n_bits ?w0n_barrers ?w0n_ways ?v0_0a ?v0_0i ?v0_0l ?v0_0c ?v0_0k ?v0_1a ?v0_1i ?v0_1l ?v0_1c ?v0_1k ?v0_2a ?v0_2i ?v0_2l ?v0_2c ?v0_2k ?y0_1 ?y0_2 ?y0_3 ?y0_4 ?y0_5 ?y0_6
    (case a1 => k_is); (case l1 => k_is); (case c1 => k_is); (case k1 => k_is)
    (case a2 => k_is); (case l2 => k_is); (case c2 => k_is); (case k2 => k_is)
    (case a3 => k_is); (case l3 => k_is); (case c3 => k_is); (case k3 => k_is)
    (case a4 => k_is); (case l4 => k_is); (case c4 => k_is); (case k4 => k_is)
    (case a5 => k_is); (case l5 => k_is); (case c5 => k_is); (case k5 => k_is)
    (case a6 => k_is); (case l6 => k_is); (case c6 => k_is); (case k6 => k_is)
    (case a7 => k_is); (case l7 => k_is); (case c7 => k_is); (case k7 => k_is)
    (case a8 => k_is); (case l8 => k_is); (case c8 => k_is); (case k8 => k_is)
    (case a9 => k_is); (case l9 => k_is); (case c9 => k_is); (case k9 => k_is)
    (case a10 => k_is); (case l10 => k_is); (case c10 => k_is); (case k10 => k_is)
    (case a11 => k_is); (case l11 => k_is); (case c11 => k_is); (case k11 => k_is)
    (case a12 => k_is); (case l12 => k_is); (case c12 => k_is); (case k12 => k_is)
    (case a13 => k_is); (case l13 => k_is); (case c13 => k_is); (case k13 => k_is)
    (case a14 => k_is); (case l14 => k_is); (case c14 => k_is); (case k14 => k_is)
    (case a15 => k_is); (case l15 => k_is); (case c15 => k_is); (case k15 => k_is)
    (case a16 => k_is); (case l16 => k_is); (case c16 => k_is); (case k16 => k_is)
    (case a17 => k_is); (case l17 => k_is); (case c17 => k_is); (case k17 => k_is)
    (case a18 => k_is); (case l18 => k_is); (case c18 => k_is); (case k18 => k_is)
    (case a19 => k_is); (case l19 => k_is); (case c19 => k_is); (case k19 => k_is)
    (case a20 => k_is); (case l20 => k_is); (case c20 => k_is); (case k20 => k_is)
    (case a21 => k_is); (case l21 => k_is); (case c21 => k_is); (case k21 => k_is)
    (case a22 => k_is); (case l22 => k_is); (case c22 => k_is); (case k22 => k_is)
    (case a23 => k_is); (case l23 => k_is); (case c23 => k_is); (case k23 => k_is)
    (case a24 => k_is); (case l24 => k_is); (case c24 => k_is); (case k24 => k_is)
    (case a25 => k_is); (case l25 => k_is); (case c25 => k_is); (case k25 => k_is)
    (case a26 => k_is); (case l26 => k_is); (case c26 => k_is); (case k26 => k_is)
    (case a27 => k_is); (case l27 => k_is); (case c27 => k_is); (case k27 => k_is)
    (case a28 => k_is); (case l28 => k_is); (case c28 => k_is); (case k28 => k_is)
    (case a29 => k_is); (case l29 => k_is); (case c29 => k_is); (case k29 => k_is)
    (case a30 => k_is); (case l30 => k_is); (case c30 => k_is); (case k30 => k_is)
    (case a31 => k_is); (case l31 => k_is); (case c31 => k_is); (case k31 => k_is)
    (case a32 => k_is); (case l32 => k_is); (case c32 => k_is); (case k32 => k_is)
    (case a33 => k_is); (case l33 => k_is); (case c33 => k_is); (case k33 => k_is)
    (case a34 => k_is); (case l34 => k_is); (case c34 => k_is); (case k34 => k_is)
    (case a35 => k_is); (case l35 => k_is); (case c35 => k_is); (case k35 => k_is)
    (case a36 => k_is); (case l36 => k_is); (case c36 => k_is); (case k36 => k_is)
    (case a37 => k_is); (case l37 => k_is); (case c37 => k_is); (case k37 => k_is)
    (case a38 => k_is); (case l38 => k_is); (case c38 => k_is); (case k38 => k_is)
    (case a39 => k_is); (case l39 => k_is); (case c39 => k_is); (case k39 => k_is)
    (case a40 => k_is); (case l40 => k_is); (case c40 => k_is); (case k40 => k_is)
    (case a41 => k_is); (case l41 => k_is); (case c41 => k_is); (case k41 => k_is)
    (case z1 => k_is); (case z2 => k_is); (case z3 => k_is); (case z4 => k_is)
    (case z5 => k_is); (case z6 => k_is); (case z7 => k_is); (case z8 => k_is)
    (case z9 => k_is); (case z10 => k_is); (case z11 => k_is); (case z12 => k_is)
    (case z13 => k_is); (case z14 => k_is); (case z15 => k_is); (case z16 => k_is)
    (case z17 => k_is); (case z18 => k_is); (case z19 => k_is); (case z20 => k_is)
    (case z21 => k_is); (case x0a => first | k_is | rfl | decide +kernel); (case x0e => first | k_is | rfl | decide +kernel); (case x0f => first | k_is | rfl | decide +kernel)
    (case x0g => first | k_is | rfl | decide +kernel); (case x0h => first | k_is | rfl | decide +kernel); (case x0n => first | k_is | rfl | decide +kernel); (case x0b => first | k_is | rfl | decide +kernel)
    (case x0c => first | k_is | rfl | decide +kernel); (case x0d => first | k_is | rfl | decide +kernel); (case x0i => first | k_is | rfl | decide +kernel); (case x0j => first | k_is | rfl | decide +kernel)
    (case x0k => first | k_is | rfl | decide +kernel); (case x0l => first | k_is | rfl | decide +kernel); (case x0m => first | k_is | rfl | decide +kernel); (case x0o => first | k_is | rfl | decide +kernel)
    (case x0p => first | k_is | rfl | decide +kernel); (case x0q => first | k_is | rfl | decide +kernel); (case x0r => first | k_is | rfl | decide +kernel); (case x0s => first | k_is | rfl | decide +kernel)
    (case x0t => first | k_is | rfl | decide +kernel); (case x0u => first | k_is | rfl | decide +kernel); (case x0v => first | k_is | rfl | decide +kernel); (case x0w => first | k_is | rfl | decide +kernel)
    (case x0y => first | k_is | rfl | decide +kernel); (case x0z_left => first | k_is | rfl | decide +kernel); (case x1a => first | k_is | rfl | decide +kernel); (case x1e => first | k_is | rfl | decide +kernel)
    (case x1f => first | k_is | rfl | decide +kernel); (case x1g => first | k_is | rfl | decide +kernel); (case x1h => first | k_is | rfl | decide +kernel); (case x1n => first | k_is | rfl | decide +kernel)
    (case x2a => first | k_is | rfl | decide +kernel); (case x2e => first | k_is | rfl | decide +kernel); (case x2f => first | k_is | rfl | decide +kernel); (case x2g => first | k_is | rfl | decide +kernel)
    (case x2h => first | k_is | rfl | decide +kernel); (case x2n => first | k_is | rfl | decide +kernel); (case x3a => first | k_is | rfl | decide +kernel); (case x3e => first | k_is | rfl | decide +kernel)
    (case x3f => first | k_is | rfl | decide +kernel); (case x3g => first | k_is | rfl | decide +kernel); (case x3h => first | k_is | rfl | decide +kernel); (case x3n => first | k_is | rfl | decide +kernel)
    (case x4a => first | k_is | rfl | decide +kernel); (case x4e => first | k_is | rfl | decide +kernel); (case x4f => first | k_is | rfl | decide +kernel); (case x4g => first | k_is | rfl | decide +kernel)
    (case x4h => first | k_is | rfl | decide +kernel); (case x4n => first | k_is | rfl | decide +kernel); (case x5a => first | k_is | rfl | decide +kernel); (case x5e => first | k_is | rfl | decide +kernel)
    (case x5f => first | k_is | rfl | decide +kernel); (case x5g => first | k_is | rfl | decide +kernel); (case x5h => first | k_is | rfl | decide +kernel); (case x5n => first | k_is | rfl | decide +kernel)
    (case x6a => first | k_is | rfl | decide +kernel); (case x6e => first | k_is | rfl | decide +kernel); (case x6f => first | k_is | rfl | decide +kernel); (case x6g => first | k_is | rfl | decide +kernel)
    (case x6h => first | k_is | rfl | decide +kernel); (case x6n => first | k_is | rfl | decide +kernel); (case w0a => first | k_is | rfl | decide +kernel); (case w0p => first | k_is | rfl | decide +kernel)
    (case w0h => first | k_is | rfl | decide +kernel); (case w0o => first | k_is | rfl | decide +kernel); (case w0s => first | k_is | rfl | decide +kernel); (case w0m => first | k_is | rfl | decide +kernel)
    (case w0k => first | k_is | rfl | decide +kernel); (case w0n_bits => first | k_is | rfl | decide +kernel); (case w0n_barrers => first | k_is | rfl | decide +kernel); (case w0n_ways => first | k_is | rfl | decide +kernel)
    (case v0_0a => first | k_is | rfl | decide +kernel); (case v0_0i => first | k_is | rfl | decide +kernel); (case v0_0l => first | k_is | rfl | decide +kernel); (case v0_0c => first | k_is | rfl | decide +kernel)
    (case v0_0k => first | k_is | rfl | decide +kernel); (case v0_1a => first | k_is | rfl | decide +kernel); (case v0_1i => first | k_is | rfl | decide +kernel); (case v0_1l => first | k_is | rfl | decide +kernel)
    (case v0_1c => first | k_is | rfl | decide +kernel); (case v0_1k => first | k_is | rfl | decide +kernel); (case v0_2a => first | k_is | rfl | decide +kernel); (case v0_2i => first | k_is | rfl | decide +kernel)
    (case v0_2l => first | k_is | rfl | decide +kernel); (case v0_2c => first | k_is | rfl | decide +kernel); (case v0_2k => first | k_is | rfl | decide +kernel); (case y0_1 => first | k_is | rfl | decide +kernel)
    (case y0_2 => first | k_is | rfl | decide +kernel); (case y0_3 => first | k_is | rfl | decide +kernel); (case y0_4 => first | k_is | rfl | decide +kernel); (case y0_5 => first | k_is | rfl | decide +kernel)
    (case y0_6 => first | k_is | rfl | decide +kernel)
