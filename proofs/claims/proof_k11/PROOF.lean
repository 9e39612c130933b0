import PyProof.Rows.All
import Wide.All
import OpenK.AllK
import Wide.FinOn
import HandS.ForMost
import HandS.Walk
import HandS.Deep
import HandS.Zip
import HandS.TupAny
import HandS.IsInst
import HandS.Strs
import HandS.More
import HandS.Flow
import HandS.Style
import HandS.NoneIn
import KE.SortData
import KE.GoesEnum
import KE.GoesMore
import HandS.Defaults
import HandS.WordsExc
import HandS.DictComp
import HandS.Iter
import HandS.MakeKwOnly
import HandS.TupMul
import PyProof.ReprLen
import HandS.ExcInit
import HandS.ExcOwn
import HandS.TryOnly
import HandS.FStr
import HandS.ExcIs
import HandS.ExcField
import KE.KExcInit
import KE.KTryMore
import HandS.Text
import PyProof.StrLawsChain
import PyProof.StrLawsTight
import PyProof.Rows.StrItems
import KE.LtSeq
import HandS.TupSets
import KE.KDictZip
import PyProof.EnumMake
import HandS.Steps
import HandS.Small
import PyProof.TupleOfSeq
import KE.OsArith
import PyProof.ListRange
import HandS.RaiseMore
import PyProof.RangeFor
import HandS.StrMore
import PyProof.Rows.IntBool
import PySem.Challenge.RW_letinrow_k11_orders_rings_chains_shown
set_option Elab.async false
set_option linter.all false
set_option maxRecDepth 100000
set_option maxHeartbeats 2000000
namespace Lk
open PySem PySem.Spec PyProof.Rows L2

/-! ### either of two rules -/
section
variable {X : Cx}
theorem pe_or2 {e : Expr} {t u : TE} (a : PE X e t) (b : PE X e u) : PE X e (fun σ H Q => t σ H Q ∨ u σ H Q) :=
  ⟨fun pins s σ H Q I h => h.elim (a.run pins s σ H Q I) (b.run pins s σ H Q I)⟩
theorem pi_or2 {tg e : Expr} {t u : TI} (a : PI X tg e t) (b : PI X tg e u) : PI X tg e (fun σ H R => t σ H R ∨ u σ H R) :=
  ⟨fun pins s σ H R I h => h.elim (a.run pins s σ H R I) (b.run pins s σ H R I)⟩
theorem pg_or2 {tg : Expr} {t u : TG} (a : PG X tg t) (b : PG X tg u) : PG X tg (fun v σ H Q => t v σ H Q ∨ u v σ H Q) :=
  ⟨fun pins s σ H v x Q I r h => h.elim (a.run pins s σ H v x Q I r) (b.run pins s σ H v x Q I r)⟩
theorem sl_or2 {r r' : V → Option Int → Option Int → Hp → VK → Prop} (a : SlR X r) (b : SlR X r') : SlR X (fun x l h H Q => r x l h H Q ∨ r' x l h H Q) :=
  fun pins s σ H x v vl vu lo hi sl Q I rx hs pl pu h => h.elim (a pins s σ H x v vl vu lo hi sl Q I rx hs pl pu) (b pins s σ H x v vl vu lo hi sl Q I rx hs pl pu)
end

/-! ### what is known in between -/
section
variable {X : Cx}
def tMid (t : TE) : TE := fun σ H Q => ∃ M : V → Hp → Prop, t σ H M ∧ ∀ v H', M v H' → Q v H'
theorem pe_mid {e : Expr} {t : TE} (h : PE X e t) : PE X e (tMid t) :=
  ⟨fun pins s σ H Q I ⟨M, h1, h2⟩ => thn (h.run pins s σ H M I h1) fun u s1 ⟨v, H1, I1, r, q⟩ => ⟨v, H1, I1, r, h2 v H1 q⟩⟩
def tMidT (t : TT) : TT := fun σ H Q => ∃ M : Bool → Hp → Prop, t σ H M ∧ ∀ v H', M v H' → Q v H'
theorem pt_mid {e : Expr} {t : TT} (h : PT X e t) : PT X e (tMidT t) :=
  ⟨fun pins s σ H Q I ⟨M, h1, h2⟩ => thn (h.run pins s σ H M I h1) fun u s1 ⟨H1, I1, q⟩ => ⟨H1, I1, h2 u H1 q⟩⟩
def tMidS (t : TS) : TS := fun D σ H => ∃ M : L2.St → Hp → Prop, t { D with nx := M } σ H ∧ ∀ σ' H', M σ' H' → D.nx σ' H'
theorem ps_mid {st : Stmt} {t : TS} (h : PS X st t) : PS X st (tMidS t) := by
  refine ⟨fun pins s σ H D I ⟨M, h1, h2⟩ => thn (h.run pins s σ H { D with nx := M } I h1) fun fl s1 q => ?_⟩
  cases fl with
  | next =>
    obtain ⟨σ', H', I', q'⟩ := q
    exact ⟨σ', H', I', h2 σ' H' q'⟩
  | brk => exact q
  | cont => exact q
  | ret u => exact q
end

/-! ### in, over a tuple of data -/
section
variable {X : Cx}
def rInT (K : PySem.W.Frag) : R2 := fun x y H Q => ∃ d ds, Dp K H x d ∧ Dp K H y (.tuple ds) ∧ SeqAt.shaped d = true ∧ SeqAt.shaped (.tuple ds) = true ∧ Q (.bl (ds.any fun z => PyData.eqv z d)) H
theorem op_inT (hu : X.A.units + 65 < cLine) : OpR X (compareOp .In) (rInT X.K) := by
  intro pins s σ H x y v u Q I rx ry h
  obtain ⟨d, ds, hd, he, sd, se, q⟩ := h
  obtain ⟨as, r1⟩ := Dp.reads I d x v hd rx
  obtain ⟨bs, r2⟩ := Dp.reads I (.tuple ds) y u he ry
  exact SeqAt.in_tuple_reads r2 r1 (SeqAt.canLay_of_shaped se) (SeqAt.canLay_of_shaped sd) (room_in_shaped sd hu) ⟨.bl _, H, I, rfl, q⟩
end

/-! ### room, where nobody writes a text of a thing around us -/
structure Room (k : Nat) (A : Around) : Prop where
  rm : L2.Room k A
  gd : A.guards = some []
theorem Room.mono {j k : Nat} {A : Around} (z : Room k A) (h : j ≤ k) : Room j A := ⟨z.rm.mono h, z.gd⟩
theorem Room.units {k : Nat} {A : Around} (z : Room k A) : A.units + 64 < cLine := z.rm.units
theorem Room.un {k : Nat} {A : Around} (z : Room k A) : A.units + 16 * k + 200 < cLine := z.rm.un
theorem Room.hd {k : Nat} {A : Around} (z : Room k A) : A.handled = none := z.rm.hd
theorem hu_of {A : Around} {k : Nat} (z : Room k A) : A.units + 1 < cLine := L2.hu_of z.rm
/-- a def's promise, asked for only there -/
structure FnOk (P : Program) (w : World) (K : PySem.W.Frag) (mg : Str → Option Value) (base : Heap) (CX : CXT) (k : Nat) (f : Addr) (fd : FuncData) (ps : List Str) (sp : Sp) : Prop where
  len : ∀ vs H Q E, sp vs H Q E → vs.length = ps.length
  run : ∀ (A : Around) (out : List Env) (s : Shared) (H : Hp) (ar : Args) (us : List Value) (vs : List V) (Q : VK) (E : XK), Room k A → Env0 P w K mg base A out s H → BindsTo s fd ar (ps.zip us) → Vals vs us → sp vs H Q E →
    codeAny (model P w) A (.call (.ref f) ar) (CR CX out P w H s Q E) s
section
variable {P : Program} {w : World} {K : PySem.W.Frag} {mg : Str → Option Value} {base : Heap} {CX : CXT} {k : Nat} {f : Addr} {fd : FuncData} {N ps : List Str} {sp : Sp}
theorem FnOk.mono {j : Nat} (F : FnOk P w K mg base CX j f fd ps sp) (h : j ≤ k) : FnOk P w K mg base CX k f fd ps sp := ⟨F.len, fun A out s H ar us vs Q E z => F.run A out s H ar us vs Q E (z.mono h)⟩
theorem FnOk.imp {sq : Sp} (F : FnOk P w K mg base CX k f fd ps sp) (h : ∀ vs H Q E, sq vs H Q E → sp vs H Q E) : FnOk P w K mg base CX k f fd ps sq :=
  ⟨fun vs H Q E z => F.len vs H Q E (h _ _ _ _ z), fun A out s H ar us vs Q E z e b v m => F.run A out s H ar us vs Q E z e b v (h _ _ _ _ m)⟩
/-- its body, by rules -/
theorem fok_of {name qual : Str} {params : Arguments} {body : List Stmt} {scope : Scope} {dV kV doc pm cdv ct oc : Value} {an od : Option Addr} {osl : Array (Option Value)}
    (lk : K.lookup f = some ⟨oc, od, .func (PySem.W.fnOf name qual params body scope dV kV doc pm an cdv ct), osl⟩) (hc : PySem.W.codeIn K cdv qual = true) (S : FnScope N ps scope) (hn : ∀ vs H Q E, sp vs H Q E → vs.length = ps.length)
    (hb : ∀ (A : Around) (out : List Env) (s : Shared) (H : Hp) (vs : List V) (Q : VK) (E : XK), Room k (A.deeper (envOfC qual scope s.heap.objs.size f cdv)) → sp vs H Q E →
      ∃ t, PSs (cxOf CX P w K mg base N qual scope f cdv A out s H E) body t ∧ t { nx := fun _ G => Q .non G, rt := Q } (start N vs) H) :
    FnOk P w K mg base CX (k + 1) f (PySem.W.fnOf name qual params body scope dV kV doc pm an cdv ct) ps sp := by
  refine ⟨hn, fun A out s H ar us vs Q E z e0 bd rv hs => ?_⟩
  have kin : K.In s.heap := e0.mod.kin.keeps fun c u q => (e0.bs c u q).1
  have nol : s.heap.NoLimit := e0.mod.nolimit.keeps fun c u q => (e0.bs c u q).1
  have kinds : ∀ y ∈ ps.zip us, scope.names.lookup y.1 = some .local ∨ (scope.names.lookup y.1 = some .cell ∧ ((cellsFrom (s.heap.objs.size + 1) scope.names []).lookup y.1).isSome = true) := by
    rintro ⟨n, v⟩ hy
    rcases S.par n (List.of_mem_zip hy).1 with c | c
    · exact .inl c
    · exact .inr ⟨c, PySem.W.cellsFrom_some _ _ _ (.inl c)⟩
  refine codeAny_call_function z.rm.depth (kin _ _ lk) rfl S.co S.gen rfl (PySem.W.codeRec_of kin hc) (bd _ _ _ _ ?_)
  refine wpAny_newFunctionEnv_cells S.kind kinds ?_
  rintro env rfl s1 ic
  refine ⟨nol.keeps ic.toInCall.keep, codeAny_func ?_⟩
  obtain ⟨t, pt, qt⟩ := hb A out s H vs Q E ⟨z.rm.deeper _, z.gd⟩ hs
  have I : Inv (cxOf CX P w K mg base N qual scope f cdv A out s H E) [] (start N vs) H s1 := inv_start S z.rm.hd e0 (hn _ _ _ _ hs) rv ic
  refine wpAny_mono (pt.run [] s1 (start N vs) H _ I qt) (fun fl s2 ends => ?_) fun _ _ h => h
  cases fl with
  | brk => exact (let ⟨_, _, _, no⟩ := ends; no : False).elim
  | cont => exact (let ⟨_, _, _, no⟩ := ends; no : False).elim
  | next =>
    obtain ⟨σ1, H1, J, w1⟩ := ends
    exact ⟨.non, H1, J.os, J.bare, J.base, J.hok, rfl, w1⟩
  | ret u =>
    obtain ⟨v, σ1, H1, J, ru, w1⟩ := ends
    exact ⟨v, H1, J.os, J.bare, J.base, J.hok, ru, w1⟩
theorem fok {x qual : Str} {st : Stmt} (F : Fun K x qual st f fd) (S : FnScope N ps (defScope st)) (hn : ∀ vs H Q E, sp vs H Q E → vs.length = ps.length)
    (hb : ∀ (cdv : Value) (A : Around) (out : List Env) (s : Shared) (H : Hp) (vs : List V) (Q : VK) (E : XK), Room k (A.deeper (envOfC qual (defScope st) s.heap.objs.size f cdv)) → sp vs H Q E →
      ∃ t, PSs (cxOf CX0 P w K mg base N qual (defScope st) f cdv A out s H E).nox (defBody st) t ∧ t { nx := fun _ G => Q .non G, rt := Q } (start N vs) H) : FnOk P w K mg base CX0 (k + 1) f fd ps sp := by
  obtain ⟨oc, od, kV, doc, pm, an, cd, ct, sl, rfl, lk, hc⟩ := F.ex
  exact fok_of lk hc S hn fun A out s H vs Q E z hs => let ⟨t, a, b⟩ := hb cd A out s H vs Q E z hs; ⟨t, a.nox, b⟩
end
section
variable {X : Cx} {CX : CXT} {k : Nat} {f : Addr} {fd : FuncData} {ps ks : List Str} {sp : Sp} {E : XK} {g : List Value → List Value → List Value} {gV : List V → List V → List V}
theorem fn_ran {pins : List (Addr × Obj)} {σ : L2.St} {H : Hp} {s : Shared} {Q : VK} {ar : Args} {us : List Value} {vs : List V} (F : FnOk X.prog X.w X.K X.mg X.base CX k f fd ps sp) (z : Room k X.A) (hx : Passes CX X E)
    (I : Inv X pins σ H s) (bd : BindsTo s fd ar (ps.zip us)) (rv : Vals vs us) (h : sp vs H Q E) : wpAny (model X.prog X.w) X.A (call (.ref f) ar.pos ar.kw) (EP X pins σ Q) X.xe s := by
  refine wpAny_call (codeAny_mono (F.run X.A X.stack s H ar us vs Q E z I.env0 bd rv h) ?_)
  rintro (e | fl) s2 ends
  · exact hx pins σ H s e s2 I ends
  cases fl with
  | ret u => exact I.after ends
  | next => exact (ends : False).elim
  | brk => exact (ends : False).elim
  | cont => exact (ends : False).elim
end
/-! ### calls -/
section
variable {X : Cx} {CX : CXT} {k n : Nat} {f : Addr} {fd : FuncData} {ps ks : List Str} {sp : Sp} {E : XK} {x : Str} {p pos : Pos} {kws : List Keyword} {tk t : TA} {g : List Value → List Value → List Value} {gV : List V → List V → List V}
  {e : Expr} {es : List Expr} {dvs : List V} {ds : List Value}
theorem pe_call (F : FnOk X.prog X.w X.K X.mg X.base CX k f fd ps sp) (z : Room k X.A) (gl : Gl X x) (hm : X.mg x = some (.ref f)) (kp : PySem.W.keepIn X.K (.ref f) = true) (hb : Binds X.K fd ps ds) (hd : Vals dvs ds) (hx : Passes CX X E)
    (ha : PA X (e :: es) t) (hdb : (x == ("__debug__" : Str)) = false := by decide)
    (he : starEach (e :: es) X.env = (false, eval e X.env) :: starEach es X.env := by rfl) (hpl : (backTo pos (starEach es X.env)).any (·.1) = false := by rfl) :
    PE X (.Call (.Name x p) (e :: es) [] pos) (tCall sp dvs E t) := by
  constructor
  intro pins s σ H Q I h
  refine wpAny_Call_Name_kw (ld_glob I gl hm (PySem.W.callWith_K (h₀ := X.base) I.ok.mod.kin kp (thn (ha.run pos pins s σ H _ I h) ?_) he hpl) hdb)
  rintro us s1 ⟨vs, H1, I1, rv, q⟩
  have r2 : Vals (vs ++ dvs) (us ++ ds) := rv.append hd
  exact ⟨I1.kIn, fn_ran (ar := ⟨us, []⟩) F z hx I1 (hb s1 us I1.kIn (r2.length.symm.trans (F.len _ _ _ _ q))) r2 q⟩
theorem pe_callK0 (F : FnOk X.prog X.w X.K X.mg X.base CX k f fd ps sp) (z : Room k X.A) (gl : Gl X x) (hm : X.mg x = some (.ref f)) (kp : PySem.W.keepIn X.K (.ref f) = true) (hb : KBinds X.K fd ps ks g gV) (hx : Passes CX X E)
    (hkw : PK X kws tk) (hall : (backToKw pos (keywordEach kws X.env)).all (·.1.isSome) = true := by rfl) (hks : (backToKw pos (keywordEach kws X.env)).filterMap (·.1) = ks := by rfl)
    (hdb : (x == ("__debug__" : Str)) = false := by decide)
    (hpl : ((backTo pos (starEach [] X.env)).any (·.1) || (backToKw pos (keywordEach kws X.env)).any (·.1.isNone)) = false := by rfl) :
    PE X (.Call (.Name x p) [] kws pos) (tCallK sp gV E tNil tk) := by
  refine ⟨fun pins s σ H Q I h => ?_⟩
  refine wpAny_Call_Name_kw (ld_glob I gl hm (PySem.W.callWith_KW0 (h₀ := X.base) I.ok.mod.kin kp hall ?_ hpl) hdb)
  refine thn (hkw.run pos pins s σ H _ I h) fun ws s2 ⟨zs, H2, I2, rz, q2⟩ => ⟨I2.kIn, ?_⟩
  rw [hks]
  have r2 := hb.rel (vs := []) (us := []) .nil rz
  exact fn_ran (ar := ⟨[], ks.zip ws⟩) F z hx I2 (hb.to s2 [] ws I2.kIn (r2.length.symm.trans (F.len _ _ _ _ q2))) r2 q2
end

/-! ### the head of a law -/
theorem law_ran {P : Program} {w : World} {K : PySem.W.Frag} {mg mb : Str → Option Value} {k : Nat} {fa a : Addr} {fd : FuncData} {x : Str} {sp : Sp} {s : Shared} {vs : List Value} {ns : List Int}
    (kin : K.In s.heap) (ng : s.heap.Ns mainGlobals mg) (nb : s.heap.Ns builtinsNs mb) (bb : ∀ y : Str, y ≠ "__name__" → mb y = bootBuiltins y) (nol : s.heap.NoLimit) (ge : s.gens = #[])
    (ha : s.heap.get? a = some { cls := .type "list", data := .seq vs.toArray }) (hi : IntsAre vs ns) (hl : ns.length ≤ sizeLine) (z : Room k callerA)
    (F : ∀ base : Heap, K.In base → base.Ns mainGlobals mg → FnOk P w K mg base CX0 k fa fd [x] sp) (bd : ∀ (c : Shared) (u : Value), BindsTo c fd ⟨[u], []⟩ [(x, u)])
    (hsp : ∀ H : Hp, SqL K H a (ns.map V.int) → sp [.ref a] H (fun v _ => v = .bl true) fun _ _ _ => False) :
    codeAny (model P w) callerA (.call (.ref fa) ⟨[.ref a], []⟩) (fun r c => r = .ok (.ret (.bool true)) ∧ OldK s.heap c.heap ∧ c.os = s.os ∧ AllBare c.gens) s := by
  have rv : Vals (ns.map V.int) vs := vals_ints hi
  have main : ∀ H : Hp, Only H → (∀ b, H b ≠ none → b = a ∧ K.lookup a = none) → SqL K H a (ns.map V.int) → HOk P w H s.heap →
      codeAny (model P w) callerA (.call (.ref fa) ⟨[.ref a], []⟩) (fun r c => r = .ok (.ret (.bool true)) ∧ OldK s.heap c.heap ∧ c.os = s.os ∧ AllBare c.gens) s := by
    intro H on at_ sq ok
    have off : ∀ {b : Addr}, b ≠ a → H b = none := fun {b} ne => Classical.byContradiction fun c => ne (at_ b c).1
    have hid : ∀ {b : Addr} {m : Str → Option Value}, s.heap.Ns b m → (hidT s.heap H).Ns b m := by
      rintro b m ⟨o, es, ep, g, d, r⟩
      refine ⟨o, es, ep, hidT_get g (off ?_), d, r⟩
      rintro rfl
      have q := ha.symm.trans g
      cases q
      cases d
    have kb : K.In (hidT s.heap H) := fun b o g => by
      refine hidT_get (kin b o g) (Classical.byContradiction fun c => ?_)
      obtain ⟨eb, no⟩ := at_ b c
      rw [eb, no] at g
      cases g
    have md : Mod K mg (hidT s.heap H) := by
      obtain ⟨mc, n1, n2⟩ := nol
      exact ⟨kb, hid ng, ⟨mb, hid nb, bb⟩, ⟨mc, hid n1, n2⟩⟩
    have e0 : Env0 P w K mg (hidT s.heap H) callerA [] s H :=
      { frames := rfl, mod := md, bs := fun b o g => of_hidT g, bsz := Nat.le_of_eq (hidT_size _ _), funs := trivial, frf := (fun b c => nomatch (show b ∈ ([] : List Addr) from c)), hok := ok, bare := .of_eq ge }
    refine codeAny_mono ((F _ kb (hid ng)).run callerA [] s H ⟨[.ref a], []⟩ [.ref a] [.ref a] _ _ z e0 (bd s (.ref a)) (.cons rfl .nil) (hsp H sq)) ?_
    rintro (er | fl) c ends
    · exact (ends : False).elim
    cases fl with
    | next => exact (ends : False).elim
    | brk => exact (ends : False).elim
    | cont => exact (ends : False).elim
    | ret u =>
      obtain ⟨v, H1, os, bare, un, ok1, ru, q⟩ := ends
      have q1 : v = .bl true := q
      subst q1
      obtain rfl : u = Value.bool true := ru
      refine ⟨rfl, OldK.of_keep ?_, os, bare⟩
      intro b o g
      rcases on b with h0 | ⟨ob, xs, h1⟩
      · exact un.keep b o g h0 (fun c => nomatch (show b ∈ ([] : List Addr) from c)) (fun c => nomatch c)
      · have g2 := (ok1 b _ (un.frzs b ob _ h1)).1
        have g1 := (ok b _ h1).1
        rw [g] at g1
        cases g1
        exact g2
  by_cases no : K.lookup a = none
  · refine main (fun b => if b = a then some (.frz { cls := .type "list", data := .seq vs.toArray } (.lst (ns.map V.int))) else none) ?_ ?_ (.inl (.inr ⟨{ cls := .type "list", data := .seq vs.toArray }, if_pos rfl⟩)) ?_
    · intro b
      by_cases c : b = a
      · exact .inr ⟨_, _, if_pos c⟩
      · exact .inl (if_neg c)
    · intro b q
      by_cases c : b = a
      · exact ⟨c, no⟩
      · exact absurd (if_neg c) q
    · intro b u q
      by_cases c : b = a
      · have q1 := (if_pos c).symm.trans q
        cases q1
        subst c
        exact ⟨ha, by rw [List.length_map]; exact hl, vs, _, rv, ha⟩
      · have q1 := (if_neg c).symm.trans q
        cases q1
  · obtain ⟨o, ho⟩ := Option.ne_none_iff_exists'.mp no
    have g := kin a o ho
    rw [ha] at g
    cases g
    refine main (fun _ => none) (fun _ => .inl rfl) (fun b q => absurd rfl q) (.inr ⟨_, vs.toArray, _, ho, rfl, rfl, rfl, ?_, by simpa using rv⟩) (fun b u q => ?_)
    · rw [List.size_toArray, hi.length]
      exact hl
    · have q' : (none : Option HO) = some u := q
      cases q'
theorem walk_law {l : PySem.W.OpenLaw} {n k : Nat} {q : Program} {loose : List Str} {XP : (Str → Option Value) → Heap → Prop} {YP : World → Heap → Prop} {d : DefRec} {K : Params → PySem.W.Frag} {sp : World → Sp} {x : Str}
    (hn : l.most = some n) (hn2 : n ≤ sizeLine) (hdf : d.params.defaults = []) (z : L2.Room k callerA)
    (hY : ∀ (w : World) (h : Heap), YP w h → (K w.params).In h)
    (F : ∀ (w : World) (mg : Str → Option Value) (fa : Addr) (h : Heap), (K w.params).In h → h.Ns mainGlobals mg → mg d.name = some (.ref fa) →
      ∃ fd : FuncData, (∀ (s : Shared) (u : Value), BindsTo s fd ⟨[u], []⟩ [(x, u)]) ∧ ∀ base : Heap, (K w.params).In base → base.Ns mainGlobals mg → FnOk l.prog w (K w.params) mg base CX0 k fa fd [x] (sp w))
    (hsp : ∀ (w : World) (H : Hp) (a : Addr) (ns : List Int), ns.length ≤ n → SqL (K w.params) H a (ns.map V.int) → sp w [.ref a] H (fun v _ => v = .bl true) fun _ _ _ => False) :
    PySem.W.WalkO q loose XP YP l.row.toRowW d [] (fun f vs => PySem.call f vs) := by
  refine Att.attach_call hn hdf ?_
  intro w s0 s1 mg mb fa o pm cd doc a vs ns G Y _ _ _ hmg ho hi hl hg
  have kin := hY w _ Y
  obtain ⟨fd, bd, ok⟩ := F w mg fa _ kin G.T.g hmg
  exact law_ran kin G.T.g G.T.b G.T.builtins G.T.nolimit hg ho hi (Nat.le_trans hl hn2) ⟨z, rfl⟩ ok bd fun H sq => hsp w H a ns hl sq

/-! ### repr -/
section
variable {X : Cx}
def rRepr (K : PySem.W.Frag) : List V → Hp → VK → Prop := fun xs H Q => ∃ (a : Addr) (d : PyData), xs = [.ref a] ∧ Dp K H (.ref a) d ∧ d.showable = true ∧ d.hasDict = false ∧ d.depth ≤ 60 ∧ d.shown.length ≤ sizeLine ∧ Q (.str d.shown) H
theorem call_repr {k : Nat} (z : Room k X.A) : CallR X (.builtin "repr") (rRepr X.K) := by
  intro pins s σ H xs us Q I r h
  obtain ⟨a, d, rfl, hd, sh, nd, dp, sz, q⟩ := h
  obtain ⟨u, rfl, ru⟩ := vals1 r
  cases ru
  obtain ⟨as, rd⟩ := Dp.reads I d (.ref a) (.ref a) hd rfl
  refine repr_of_reads' rd sh (PyData.noDict_hsm nd) z.gd (by have := z.units; omega) (fun _ _ e => e) (fun h' u tk kp => ?_) sz
  exact ⟨.str d.shown, H, I.kept (t' := tk) kp, ⟨u, rfl⟩, q⟩
end
end Lk
set_option maxRecDepth 100000
set_option maxHeartbeats 4000000
namespace Lk
open PySem PySem.Spec PyProof.Rows L2

/-! ### enumerate(tuple) -/
theorem meets_enum1 {v : Value} {o : Obj} {H : Heap → Prop} (B : Begins v o H) :
    Meets (Builtin.«enumerate.__new__» ⟨[.type "enumerate", v], []⟩) (fun _ R s => H s.heap ∧
      R (.ok (.ret (.ref (s.heap.push o).objs.size))) { s with heap := (s.heap.push o).push { cls := .type "enumerate", data := .fields #[.none, .bool false, .ref s.heap.objs.size, rawInt 0, .none, .none] } }) :=
  .of_wp fun prog w A R s h => by
    obtain ⟨hp, g, d, tk, os⟩ := s; obtain ⟨h1, h⟩ := h
    have hsub := sub_enumerate
    have q1 : ∀ {A' : Around} {E : Value → Shared → Prop} {Q : Value → Shared → Prop}, Q (.ref hp.objs.size) ⟨hp.push o, g, d, tk, os⟩ → wpAny (model prog w) A' (pyIter v) Q E ⟨hp, g, d, tk, os⟩ :=
      fun q => B.iter prog w _ _ ⟨hp, g, d, tk, os⟩ _ h1 q
    wp_walk using q1
    refine wpAny_stack_any fun st => wpAny_pure ?_
    split
    · rename_i c _ _ _ _ _
      cases (c == Value.type "enumerate")
      · wp_walk using q1
        exact ⟨_, rfl, h⟩
      · wp_walk using q1
        exact ⟨_, rfl, h⟩
    · wp_walk using q1
      exact ⟨_, rfl, h⟩
section
variable {prog : Program} {w : World} {A : Around} {E : Value → Shared → Prop} {s : Shared}
theorem enum1_begins {v : Value} {o : Obj} {H : Heap → Prop} {Q : Value → Shared → Prop} (B : Begins v o H) (h1 : H s.heap)
    (h : ∀ h', IsEnum h' (s.heap.objs.size + 1) s.heap.objs.size 0 .none → h'.get? s.heap.objs.size = some o → h'.objs.size = s.heap.objs.size + 2 →
      (∀ b o, s.heap.get? b = some o → h'.get? b = some o) → Q (.ref (s.heap.objs.size + 1)) { s with heap := h' }) :
    wpAny (model prog w) A (call (.type "enumerate") [v]) Q E s := by
  refine callType_new F.called_enumerate (by decide) (F.typeCall_enumerate_1 _) (F.newCall_enumerate_1 _) (fun obj => F.args_object_init_2 obj _) F.entry_enumerate_new
    (meets_enum1 B) ⟨h1, ?_⟩
  have hz : (s.heap.push o).objs.size = s.heap.objs.size + 1 := Heap.size_push ..
  show _ ∧ _
  rw [hz]
  have he : IsEnum ((s.heap.push o).push { cls := .type "enumerate", data := .fields #[.none, .bool false, .ref s.heap.objs.size, rawInt 0, .none, .none] }) (s.heap.objs.size + 1) s.heap.objs.size 0 .none := by
    have := Heap.get?_push_size (s.heap.push o) (o := { cls := .type "enumerate", data := .fields #[.none, .bool false, .ref s.heap.objs.size, rawInt 0, .none, .none] }) rfl
    rw [hz] at this; exact this
  refine ⟨⟨_, he, rfl⟩, h _ he (Heap.get?_push_of_some _ (Heap.get?_push_size _ B.free)) (by rw [Heap.size_push, hz]) fun b o x => Heap.get?_push_of_some _ (Heap.get?_push_of_some _ x)⟩
end
def IteT (K : PySem.W.Frag) (a : Addr) : It :=
  ⟨fun i H => ∃ (xs : List V) (x : V), SqT K H a xs ∧ xs[i]? = some x, fun i H v H' => ∃ T x, v = .ref T ∧ H T = none ∧ H' = upd H T (.tup [.int (i : Nat), x]) ∧ ∀ xs, SqT K H a xs → xs[i]? = some x, fun i H => ∃ xs : List V, SqT K H a xs ∧ xs.length = i⟩
theorem turn_enumT {P : Program} {w : World} {K : PySem.W.Frag} {elts : List Expr} {kk : Nat} {tpos : Pos} (a e it : Addr) :
    Turn P w K (.Tuple elts kk tpos) (IteT K a) [e, it] e (fun i h => (∃ old, IsEnum h e it ((i : Nat) : Int) old) ∧ h.IsTupleIter it a i ∧ e ≠ it) where
  mem := by simp
  obj := fun i h st b hb => by
    obtain ⟨⟨old, he⟩, ⟨o, ho, hc, hd⟩, _⟩ := st
    have e' : b = e ∨ b = it := by simpa using hb
    rcases e' with z | z
    · rw [z]; exact ⟨_, he, fun v q => nomatch q⟩
    · rw [z]; exact ⟨o, ho, fun v q => by rw [hd] at q; cases q⟩
  keep := fun i h h' st k => let ⟨⟨old, he⟩, hi, hne⟩ := st; ⟨⟨old, k e (by simp) _ he⟩, hi.at fun o q => k it (by simp) o q, hne⟩
  item := by
    intro X hP hw hK hc i pins s σ H E I hf st hg
    subst hP hw hK
    obtain ⟨⟨old, he⟩, hit, hne⟩ := st
    obtain ⟨xs, x, hq, hx⟩ := hg
    obtain ⟨its, rv, p, hz⟩ := I.tuple hq
    obtain ⟨u, hu, ru⟩ := rv.get hx
    have hel : e < s.heap.objs.size := Heap.lt_size he
    have hil : it < s.heap.objs.size := by obtain ⟨_, q, _⟩ := hit; exact Heap.lt_size q
    have hai : a ≠ it := by
      rintro rfl
      obtain ⟨o, ho, hcc, _⟩ := p
      obtain ⟨o', ho', hc', _⟩ := hit
      rw [ho] at ho'; cases ho'
      rw [hcc] at hc'
      exact absurd (Value.type.inj hc') (by decide)
    have hae : e ≠ a := by
      rintro rfl
      obtain ⟨o, ho, hcc, _⟩ := p
      have ho' := ho.symm.trans he
      cases ho'
      exact absurd (Value.type.inj hcc) (by decide)
    have hlt : i < its.toArray.size := by
      rw [List.size_toArray]
      exact (List.getElem?_eq_some_iff.mp hu).1
    refine wpAny_pyNext_enum_itemD (Draws.tuple (A := X.A.in1) (I.ok.hd hc) it a hai its.toArray) he ⟨hit, p⟩ hlt hne (by simp [hne, hae]) fun v h' tk hxv ho st' hT hsz hk => ?_
    have ev : v = u := by
      have q : its.toArray[i]? = some v := hxv
      rw [List.getElem?_toArray, hu] at q
      exact (Option.some.inj q).symm
    subst ev
    refine ⟨_, rfl, wpAny_letOwnedTupleGo_enum (s := { s with heap := h', toks := tk + 1 }) ho fun h'' he' sb => ?_⟩
    have hT2 : h''.get? s.heap.objs.size = some { cls := .type "tuple", data := .seq #[.int i tk, v] } := (sb.2 _ (Nat.ne_of_gt hel)).trans hT
    have new : ObjOk X.prog X.w (upd H s.heap.objs.size (.tup [.int (i : Nat), x])) h'' s.heap.objs.size (.tup [.int (i : Nat), x]) :=
      ⟨by show 2 ≤ sizeLine; decide, [.int i tk, v], .cons ⟨_, rfl⟩ (.cons ru .nil), ⟨_, hT2, rfl, _, rfl⟩⟩
    have I1 : Inv X pins σ (upd H s.heap.objs.size (.tup [.int (i : Nat), x])) { s with heap := h'', toks := tk + 1 } :=
      I.turnedNew (ch := [e, it]) (fun b ob hb q => (sb.2 b (fun z => hb (by simp [z]))).trans (hk b ob (fun z => hb (by simp [z])) (fun z => hb (by simp [z])) q)) hf (Nat.le_refl _) new
    refine ⟨.ref s.heap.objs.size, _, I1, rfl, ⟨_, x, rfl, I.hok.fresh (Nat.le_refl _), rfl, fun ys hy => by rw [I.tuple_inj hy hq]; exact hx⟩, ⟨⟨v, ?_⟩, st'.1.at fun o q => (sb.2 it (Ne.symm hne)).trans q, hne⟩, fun b hb => ?_⟩
    · have e1 : ((i + 1 : Nat) : Int) = (i : Int) + 1 := by omega
      rw [e1]; exact he'
    · have hb' : b < s.heap.objs.size := by
        have e' : b = e ∨ b = it := by simpa using hb
        rcases e' with z | z
        · rw [z]; exact hel
        · rw [z]; exact hil
      rw [upd_ne (Nat.ne_of_lt hb')]
      exact (hf b hb).1
  done := by
    intro X hP hw hK hc i pins s σ H E I hf st hg
    subst hP hw hK
    obtain ⟨⟨old, he⟩, hit, hne⟩ := st
    obtain ⟨xs, hq, hx⟩ := hg
    obtain ⟨its, rv, p, hz⟩ := I.tuple hq
    obtain ⟨f0, f1, f2, f3, f4, f5⟩ := hf it (by simp)
    have hl := rv.length
    have hai : a ≠ it := by
      rintro rfl
      obtain ⟨o, ho, hcc, _⟩ := p
      obtain ⟨o', ho', hc', _⟩ := hit
      rw [ho] at ho'; cases ho'
      rw [hcc] at hc'
      exact absurd (Value.type.inj hc') (by decide)
    have en : i = its.toArray.size := by
      rw [List.size_toArray]
      omega
    subst en
    exact wpAny_pyNext_enum_endD (Draws.tuple (A := X.A.in1) (I.ok.hd hc) it a hai its.toArray) he ⟨hit, p⟩ fun h' eb => ⟨rfl, I.turned (t' := s.toks) (fun b o hb q => eb b o hb q) f0 f1 f3 f4 f5⟩
  self := fun A i s Q E st h => let ⟨⟨_, he⟩, _⟩ := st; wpAny_pyIter_enum he h
def iEnumT (K : PySem.W.Frag) (ta : TA) : TI := fun σ H R => ta σ H fun vs H1 => ∃ a xs, vs = [.ref a] ∧ SqT K H1 a xs ∧ R (IteT K a) H1
theorem pi_enumT {X : Cx} {e : Expr} {ta : TA} {p pos tpos : Pos} {elts : List Expr} {kk : Nat} (hg : Gl X "enumerate") (hm : X.mg "enumerate" = none) (ha : PA X [e] ta) (hs : starEach [e] X.env = [(false, eval e X.env)] := by rfl) :
    PI X (.Tuple elts kk tpos) (.Call (.Name "enumerate" p) [e] [] pos) (iEnumT X.K ta) := by
  refine ⟨fun pins s σ H R I h => ?_⟩
  refine Call_ (ld_blt I hg hm boot_enumerate (PyProof.Rows.callWith_type1 (thn (ha.run pos pins s σ H _ I h) fun us s1 ⟨vs, H1, I1, r1, q1⟩ => ?_) hs rfl))
  obtain ⟨a, xs, ex, hq, q⟩ := q1
  subst ex
  cases r1 with
  | cons r rr =>
    cases rr
    cases r
    obtain ⟨its, rv, p', hz⟩ := I1.tuple hq
    refine enum1_begins (begins_tuple a its.toArray) p' fun h' he hit hsz hk => wpAny_pyIter_enum he ?_
    have I2 : Inv X pins σ H1 { s1 with heap := h' } := I1.kept (t' := s1.toks) hk
    refine ⟨s1.heap.objs.size + 1, [s1.heap.objs.size + 1, s1.heap.objs.size], _, _, H1, rfl, I2, turn_enumT a (s1.heap.objs.size + 1) s1.heap.objs.size, ⟨⟨.none, he⟩, ⟨_, hit, rfl, rfl⟩, Nat.succ_ne_self _⟩, fun b hb => ?_, q⟩
    have e' : b = s1.heap.objs.size + 1 ∨ b = s1.heap.objs.size := by simpa using hb
    have hle : s1.heap.objs.size ≤ b := by
      rcases e' with z | z
      · rw [z]; exact Nat.le_add_right _ _
      · rw [z]; exact Nat.le_refl _
    exact I1.fpOk hle (I1.hok.fresh hle)
theorem walk_enumT {K : PySem.W.Frag} {a : Addr} {xs : List V} : Walk (IteT K a) xs.length (fun H => SqT K H a xs) (YPair (fun i => some (.int (i : Nat))) (fun i => xs[i]?)) := by
  refine ⟨fun i _ hi q => ⟨xs, xs[i], q, by simp [hi]⟩, fun _ q => ⟨xs, q, rfl⟩, fun i H v H' _ q y => ?_⟩
  obtain ⟨T, x, h1, h2, h3, h4⟩ := y
  exact ⟨T, .int (i : Nat), x, h1, h2, h3, rfl, h4 xs q⟩

/-! ### min, max of two texts -/
def lmin (x y : Str) : Str := if y.cps.toList < x.cps.toList then y else x
def lmax (x y : Str) : Str := if x.cps.toList < y.cps.toList then y else x
theorem cmp_lt_strs {prog : Program} {w : World} {A : Around} {P : Nat → Value → Prop} (val : Nat → Str) (hval : ∀ i v, P i v → ∃ t, v = .str (val i) t) :
    CmpOf prog w A .Lt P (fun i j => decide ((val i).cps.toList < (val j).cps.toList)) := fun i j vi vj s Q E hi hj h => by
  obtain ⟨t, rfl⟩ := hval i vi hi
  obtain ⟨u, rfl⟩ := hval j vj hj
  exact richCompare_gives (op := .Lt) (typeIs_str s _ t) (typeIs_str s _ u) F.slot_str_lt F.entry_str_lt (F.args_str_lt_2 _ _) (gives_str_lt _ _ t u) (fun x => nomatch x) h
theorem cmp_gt_strs {prog : Program} {w : World} {A : Around} {P : Nat → Value → Prop} (val : Nat → Str) (hval : ∀ i v, P i v → ∃ t, v = .str (val i) t) :
    CmpOf prog w A .Gt P (fun i j => decide ((val j).cps.toList < (val i).cps.toList)) := fun i j vi vj s Q E hi hj h => by
  obtain ⟨t, rfl⟩ := hval i vi hi
  obtain ⟨u, rfl⟩ := hval j vj hj
  exact richCompare_gives (op := .Gt) (typeIs_str s _ t) (typeIs_str s _ u) F.slot_str_gt F.entry_str_gt (F.args_str_gt_2 _ _) (gives_str_gt _ _ t u) (fun x => nomatch x) h
def txtAt (x y : Str) (i : Nat) : Str := if i = 0 then x else y
theorem two_at {x y : Str} {t u : Tok} {i : Nat} {v : Value} (h : (#[.str x t, .str y u] : Array Value)[i]? = some v) : ∃ k, v = .str (txtAt x y i) k := by
  match i, h with
  | 0, h => exact ⟨t, (Option.some.inj h).symm⟩
  | 1, h => exact ⟨u, (Option.some.inj h).symm⟩
  | i + 2, h =>
    have q : (#[.str x t, .str y u] : Array Value)[i + 2]? = none := by simp
    rw [q] at h
    cases h
section
variable {prog : Program} {w : World} {A : Around} {E : Value → Shared → Prop} {s : Shared}
theorem min_two_strs {a b : Str} {t u : Tok} {Q : Value → Shared → Prop} (hh : A.handled = none)
    (h : ∀ h' tk k, (∀ c o, s.heap.get? c = some o → h'.get? c = some o) → Q (.str (lmin a b) k) { s with heap := h', toks := tk }) :
    wpAny (model prog w) A (call (.builtin "min") [.str a t, .str b u]) Q E s := by
  have hT : (s.heap.push { cls := .type "tuple", data := .seq #[.str a t, .str b u] }).IsTuple s.heap.objs.size #[.str a t, .str b u] := ⟨_, Heap.get?_push_size _ rfl, rfl, 0, rfl⟩
  refine call_min_two (wpAny_pyIter_tuple hT ?_)
  have hsz : (s.heap.push { cls := .type "tuple", data := .seq #[.str a t, .str b u] }).objs.size = s.heap.objs.size + 1 := Heap.size_push ..
  refine ⟨_, [_, s.heap.objs.size], [_], _, _, _, _, rfl, Walks.tuple (A := A.in1) hh _ s.heap.objs.size (by rw [hsz]; exact Nat.ne_of_lt (Nat.lt_succ_self _)) #[.str a t, .str b u],
    ⟨⟨_, Heap.get?_push_size _ rfl, rfl, rfl⟩, hT.push _⟩, fun c hc => ?_, by simp, cmp_lt_strs (txtAt a b) (fun _ _ => two_at), fun v h' tk hP hk => ?_⟩
  · show c < ((s.heap.push _).push _).objs.size
    rw [Heap.size_push, hsz]
    rcases List.mem_cons.mp hc with rfl | hc
    · rw [hsz]; exact Nat.lt_succ_self _
    · rcases List.mem_cons.mp hc with rfl | hc
      · exact Nat.lt_succ_of_lt (Nat.lt_succ_self _)
      · cases hc
  · have hold : ∀ c o, s.heap.get? c = some o → h'.get? c = some o := fun c o e => by
      refine hk c o (fun hm => ?_) (Heap.get?_push_of_some _ (Heap.get?_push_of_some _ e))
      rcases List.mem_cons.mp hm with e1 | hm
      · have := Heap.lt_size e; rw [e1, hsz] at this; exact Nat.lt_irrefl _ (Nat.lt_of_succ_lt this)
      · cases hm
    have hP' : (#[.str a t, .str b u] : Array Value)[argBest (fun i j => decide ((txtAt a b i).cps.toList < (txtAt a b j).cps.toList)) 1]? = some v := hP
    have hv : ∃ k, v = .str (lmin a b) k := by
      by_cases hba : b.cps.toList < a.cps.toList
      · have e : argBest (fun i j => decide ((txtAt a b i).cps.toList < (txtAt a b j).cps.toList)) 1 = 1 := by simp [argBest, txtAt, hba]
        rw [e] at hP'
        refine ⟨u, ?_⟩
        rw [lmin, if_pos hba]
        exact (Option.some.inj hP').symm
      · have e : argBest (fun i j => decide ((txtAt a b i).cps.toList < (txtAt a b j).cps.toList)) 1 = 0 := by simp [argBest, txtAt, hba]
        rw [e] at hP'
        refine ⟨t, ?_⟩
        rw [lmin, if_neg hba]
        exact (Option.some.inj hP').symm
    obtain ⟨k, rfl⟩ := hv
    exact h h' tk k hold
theorem max_two_strs {a b : Str} {t u : Tok} {Q : Value → Shared → Prop} (hh : A.handled = none)
    (h : ∀ h' tk k, (∀ c o, s.heap.get? c = some o → h'.get? c = some o) → Q (.str (lmax a b) k) { s with heap := h', toks := tk }) :
    wpAny (model prog w) A (call (.builtin "max") [.str a t, .str b u]) Q E s := by
  have hT : (s.heap.push { cls := .type "tuple", data := .seq #[.str a t, .str b u] }).IsTuple s.heap.objs.size #[.str a t, .str b u] := ⟨_, Heap.get?_push_size _ rfl, rfl, 0, rfl⟩
  refine call_max_two (wpAny_pyIter_tuple hT ?_)
  have hsz : (s.heap.push { cls := .type "tuple", data := .seq #[.str a t, .str b u] }).objs.size = s.heap.objs.size + 1 := Heap.size_push ..
  refine ⟨_, [_, s.heap.objs.size], [_], _, _, _, _, rfl, Walks.tuple (A := A.in1) hh _ s.heap.objs.size (by rw [hsz]; exact Nat.ne_of_lt (Nat.lt_succ_self _)) #[.str a t, .str b u],
    ⟨⟨_, Heap.get?_push_size _ rfl, rfl, rfl⟩, hT.push _⟩, fun c hc => ?_, by simp, cmp_gt_strs (txtAt a b) (fun _ _ => two_at), fun v h' tk hP hk => ?_⟩
  · show c < ((s.heap.push _).push _).objs.size
    rw [Heap.size_push, hsz]
    rcases List.mem_cons.mp hc with rfl | hc
    · rw [hsz]; exact Nat.lt_succ_self _
    · rcases List.mem_cons.mp hc with rfl | hc
      · exact Nat.lt_succ_of_lt (Nat.lt_succ_self _)
      · cases hc
  · have hold : ∀ c o, s.heap.get? c = some o → h'.get? c = some o := fun c o e => by
      refine hk c o (fun hm => ?_) (Heap.get?_push_of_some _ (Heap.get?_push_of_some _ e))
      rcases List.mem_cons.mp hm with e1 | hm
      · have := Heap.lt_size e; rw [e1, hsz] at this; exact Nat.lt_irrefl _ (Nat.lt_of_succ_lt this)
      · cases hm
    have hP' : (#[.str a t, .str b u] : Array Value)[argBest (fun i j => decide ((txtAt a b j).cps.toList < (txtAt a b i).cps.toList)) 1]? = some v := hP
    have hv : ∃ k, v = .str (lmax a b) k := by
      by_cases hba : a.cps.toList < b.cps.toList
      · have e : argBest (fun i j => decide ((txtAt a b j).cps.toList < (txtAt a b i).cps.toList)) 1 = 1 := by simp [argBest, txtAt, hba]
        rw [e] at hP'
        refine ⟨u, ?_⟩
        rw [lmax, if_pos hba]
        exact (Option.some.inj hP').symm
      · have e : argBest (fun i j => decide ((txtAt a b j).cps.toList < (txtAt a b i).cps.toList)) 1 = 0 := by simp [argBest, txtAt, hba]
        rw [e] at hP'
        refine ⟨t, ?_⟩
        rw [lmax, if_neg hba]
        exact (Option.some.inj hP').symm
    obtain ⟨k, rfl⟩ := hv
    exact h h' tk k hold
end
section
variable {X : Cx}
theorem call_minS (hc : X.calm = true) : CallR X (.builtin "min") (fun xs H Q => ∃ i j, xs = [.str i, .str j] ∧ Q (.str (lmin i j)) H) := by
  intro pins s σ H xs us Q I r h
  obtain ⟨i, j, rfl, q⟩ := h
  obtain ⟨u, w', rfl, ⟨t, rfl⟩, ⟨t', rfl⟩⟩ := vals2 r
  exact min_two_strs (I.ok.hd hc) fun h' tk k kp => ⟨.str _, H, I.kept kp, ⟨_, rfl⟩, q⟩
theorem call_maxS (hc : X.calm = true) : CallR X (.builtin "max") (fun xs H Q => ∃ i j, xs = [.str i, .str j] ∧ Q (.str (lmax i j)) H) := by
  intro pins s σ H xs us Q I r h
  obtain ⟨i, j, rfl, q⟩ := h
  obtain ⟨u, w', rfl, ⟨t, rfl⟩, ⟨t', rfl⟩⟩ := vals2 r
  exact max_two_strs (I.ok.hd hc) fun h' tk k kp => ⟨.str _, H, I.kept kp, ⟨_, rfl⟩, q⟩
end

/-! ### sorted of pairs of texts -/
def encP (b : Addr × Str × Str) : PyData := .tuple [.str b.2.1, .str b.2.2]
def rSortedTT (K : PySem.W.Frag) : List V → Hp → VK → Prop := fun vs H Q => ∃ (a : Addr) (bs : List (Addr × Str × Str)), vs = [V.ref a] ∧ SqL K H a (bs.map fun b => V.ref b.1) ∧ (∀ b ∈ bs, H b.1 = some (.tup [.str b.2.1, .str b.2.2])) ∧
  ∀ p, H p = none → Q (.ref p) (upd H p (.lst ((bs.mergeSort (PySem.W.dataLe false encP)).map fun b => V.ref b.1)))
theorem refs_vals : ∀ {bs : List (Addr × Str × Str)} {its : List Value}, Vals (bs.map fun b => V.ref b.1) its → its = bs.map fun b => Value.ref b.1
  | [], its, h => by cases h; rfl
  | b :: bs, its, h => by
    cases h with
    | cons r t =>
      have e : _ = Value.ref b.1 := r
      rw [e, refs_vals t]
      rfl
theorem vals_refs : ∀ (bs : List (Addr × Str × Str)), Vals (bs.map fun b => V.ref b.1) (bs.map fun b => Value.ref b.1)
  | [] => .nil
  | b :: bs => .cons rfl (vals_refs bs)
theorem each_refs : ∀ (bs : List (Addr × Str × Str)), PySem.W.EachIs (fun v b => v = Value.ref b.1) (bs.map fun b => Value.ref b.1) bs
  | [] => .nil
  | b :: bs => .cons rfl (each_refs bs)
theorem of_each : ∀ {bs : List (Addr × Str × Str)} {out : List Value}, PySem.W.EachIs (fun v b => v = Value.ref b.1) out bs → out = bs.map fun b => Value.ref b.1
  | _, _, .nil => rfl
  | _, _, .cons e t => by rw [e, of_each t]; rfl
theorem each_of {R : Value → Addr × Str × Str → Prop} : ∀ {bs : List (Addr × Str × Str)}, (∀ b ∈ bs, R (Value.ref b.1) b) → PySem.W.EachIs R (bs.map fun b => Value.ref b.1) bs
  | [], _ => .nil
  | b :: bs, h => .cons (h b List.mem_cons_self) (each_of fun c hc => h c (List.mem_cons_of_mem _ hc))
section
variable {X : Cx}
theorem cr_sortedTT (hu : X.A.units + 64 < cLine) : CallR X (.builtin "sorted") (rSortedTT X.K) := by
  intro pins s σ H vs us Q I r h
  obtain ⟨a, bs, rfl, hs, hb, q⟩ := h
  obtain ⟨its, rv, hl, hz⟩ := I.list hs
  rw [Vals.ref1 r]
  have hi := refs_vals rv
  subst hi
  have hlen : bs.length ≤ sizeLine := by rw [List.length_map] at hz; exact hz
  refine PySem.W.sorted_data (R := fun v b => v = Value.ref b.1) (bs := bs) (enc := encP) hl.isList (each_refs bs) (each_of fun b hm => ?_) (PySem.W.AllAlike.of fun b b' => ?_) (PySem.W.Sortable.tuples fun b => ⟨_, _, rfl⟩) hlen (fun b _ => ?_) fun out ho he => ?_
  · obtain ⟨_, its2, r2, o, hob, hc, n, hd⟩ := I.hok _ _ (hb b hm)
    obtain ⟨u1, u2, rfl, ⟨t1, rfl⟩, ⟨t2, rfl⟩⟩ := vals2 r2
    exact ⟨_, Reads.tuple hob hc hd (.cons (Reads.str _ _) (.cons (Reads.str _ _) .nil))⟩
  · simp [encP, PySem.W.alike, PySem.W.alikeAll]
  · have : (encP b).depth = 1 := by simp [encP, PyData.depth, PyData.depthAll]
    omega
  · have eo := of_each he
    subst eo
    obtain ⟨ep, he'⟩ := PyProof.Rows.sortedAll_at s.heap (bs.map fun b => Value.ref b.1) ((bs.mergeSort (PySem.W.dataLe false encP)).map fun b => Value.ref b.1).toArray
    have hlen2 : ((bs.mergeSort (PySem.W.dataLe false encP)).map fun b => V.ref b.1).length ≤ sizeLine := by rw [List.length_map, List.length_mergeSort]; exact hlen
    exact ⟨.ref _, upd H (s.heap.objs.size + 1) (.lst ((bs.mergeSort (PySem.W.dataLe false encP)).map fun b => V.ref b.1)), I.laid (t' := s.toks) (fun _ _ => PyProof.Rows.sortedAll_old) (Nat.le_succ _) ⟨hlen2, _, ep, vals_refs _, he'⟩, rfl, q _ (I.hok.fresh (Nat.le_succ _))⟩
end
end Lk
set_option maxRecDepth 100000
set_option maxHeartbeats 4000000
namespace Lk
open PySem PySem.Spec PyProof.Rows L2

/-! ### heaps -/
theorem same_upd {H : Hp} {p : Addr} {o : HO} (h : H p = none) : Same H (upd H p o) := fun b x e => by
  rw [upd_ne (ne_of_none e h)]
  exact e
/-- all but what stands at b is as it was -/
def Oth (b : Addr) (H H' : Hp) : Prop := ∀ a o, a ≠ b → H a = some o → H' a = some o
theorem Oth.refl (b : Addr) (H : Hp) : Oth b H H := fun _ _ _ h => h
theorem Oth.trans {b : Addr} {H H1 H2 : Hp} (x : Oth b H H1) (y : Oth b H1 H2) : Oth b H H2 := fun a o n h => y a o n (x a o n h)
theorem Oth.of {b : Addr} {H H' : Hp} (x : Same H H') : Oth b H H' := fun a o _ h => x a o h
theorem Oth.upd {b : Addr} {H : Hp} {o : HO} : Oth b H (upd H b o) := fun a u n h => by rw [upd_ne n]; exact h
theorem Oth.free {b p : Addr} {H H' : Hp} (x : Oth b H H') (hb : p ≠ b) (h : H' p = none) : H p = none := by
  cases q : H p with
  | none => rfl
  | some o =>
    rw [x p o hb q] at h
    cases h
def IsBox (H : Hp) (b : Addr) : Prop := ∃ x y z : Int, H b = some (.lst [.int x, .int y, .int z])
theorem IsBox.same {H H' : Hp} {b : Addr} (x : Same H H') (h : IsBox H b) : IsBox H' b := by
  obtain ⟨i, j, k, e⟩ := h
  exact ⟨i, j, k, x _ _ e⟩
theorem IsBox.ne_tup {H : Hp} {b t : Addr} {xs : List V} (h : IsBox H b) (ht : H t = some (.tup xs)) : t ≠ b := by
  obtain ⟨i, j, k, e⟩ := h
  exact ne_of ht e (fun z => nomatch z)
theorem IsBox.ne_dT {H : Hp} {b t : Addr} {xs : List (List Key × V)} (h : IsBox H b) (ht : H t = some (.dT xs)) : t ≠ b := by
  obtain ⟨i, j, k, e⟩ := h
  exact ne_of ht e (fun z => nomatch z)
theorem IsBox.ne_strs {H : Hp} {b t : Addr} {xs : List Str} (h : IsBox H b) (ht : H t = some (.lst (xs.map V.str))) : t ≠ b := by
  obtain ⟨i, j, k, e⟩ := h
  refine ne_of ht e (fun z => ?_)
  match xs, z with
  | [], z => cases z
  | x :: r, z => cases z
theorem IsBox.ne_refs {H : Hp} {b t : Addr} {xs : List Addr} (h : IsBox H b) (ht : H t = some (.lst (xs.map V.ref))) : t ≠ b := by
  obtain ⟨i, j, k, e⟩ := h
  refine ne_of ht e (fun z => ?_)
  match xs, z with
  | [], z => cases z
  | x :: r, z => cases z
theorem IsBox.ne_none {H : Hp} {b p : Addr} (h : IsBox H b) (hp : H p = none) : p ≠ b := by
  obtain ⟨i, j, k, e⟩ := h
  exact (ne_of_none e hp).symm
theorem small9 {n : Nat} (h : n ≤ 9000) : n < sizeLine := Nat.lt_of_le_of_lt h (by decide)
theorem small_le {n : Nat} (h : n ≤ 1000) : n ≤ sizeLine := Nat.le_of_lt (small1000 h)

/-! ### slices -/
def cutL {α : Type} (xs : List α) (lo hi : Option Int) : List α := (xs.drop (HT.sIx xs.length 0 lo)).take (HT.sIx xs.length xs.length hi - HT.sIx xs.length 0 lo)
theorem cutV_map {α : Type} (f : α → V) (xs : List α) (lo hi : Option Int) : cutV (xs.map f) lo hi = (cutL xs lo hi).map f := by
  unfold cutV cutL
  rw [List.length_map, List.map_take, List.map_drop]
theorem cutL_to {α : Type} (xs : List α) (k : Nat) : cutL xs none (some (k : Int)) = xs.take k := by
  unfold cutL
  rw [HT.sIx_none, HT.sIx_nat, List.drop_zero, Nat.sub_zero]
  by_cases h : k ≤ xs.length
  · rw [Nat.min_eq_left h]
  · rw [Nat.min_eq_right (by omega), List.take_of_length_le (Nat.le_refl _), List.take_of_length_le (by omega)]
theorem cutL_from {α : Type} (xs : List α) (k : Nat) : cutL xs (some (k : Int)) none = xs.drop k := by
  unfold cutL
  rw [HT.sIx_none, HT.sIx_nat]
  by_cases h : k ≤ xs.length
  · rw [Nat.min_eq_left h, List.take_of_length_le (by rw [List.length_drop]; exact Nat.le_refl _)]
  · rw [Nat.min_eq_right (by omega), List.drop_length, List.drop_eq_nil_of_le (by omega), List.take_nil]
theorem cutL_le {α : Type} (xs : List α) (lo hi : Option Int) : (cutL xs lo hi).length ≤ xs.length := by
  unfold cutL
  rw [List.length_take, List.length_drop]
  omega
theorem cutL_has {α : Type} {xs : List α} {k : Nat} {hi : Option Int} (h : 0 < (cutL xs (some (k : Int)) hi).length) : k < xs.length := by
  unfold cutL at h
  rw [List.length_take, List.length_drop, HT.sIx_nat] at h
  omega
theorem at_map {α : Type} {f : α → V} {xs : List α} {i : Nat} {x : V} (h : (xs.map f)[i]? = some x) : ∃ y, xs[i]? = some y ∧ x = f y := by
  rw [List.getElem?_map] at h
  cases e : xs[i]? with
  | none => rw [e] at h; cases h
  | some y =>
    rw [e] at h
    exact ⟨y, rfl, (Option.some.inj h).symm⟩
theorem ix_map {α : Type} {f : α → V} {xs : List α} {i : Nat} {y : α} (h : xs[i]? = some y) : (xs.map f)[i]? = some (f y) := by
  rw [List.getElem?_map, h]
  rfl
theorem set_map {α : Type} {f : α → V} {xs : List α} {i : Nat} {y : α} : (xs.map f).set i (f y) = (xs.set i y).map f := by
  rw [List.map_set]

theorem bit01 (k : Bool) : -(2 ^ 64) < (if k = true then 1 else 0 : Int) ∧ (if k = true then 1 else 0 : Int) < 2 ^ 64 := by cases k <;> decide
theorem bit2 (k : Bool) : (0 : Int) ≤ (if k = true then 1 else 0 : Int) ∧ (if k = true then 1 else 0 : Int) ≤ 1 := by cases k <;> decide

/-! ### names of the built-in -/
structure Blt (mg : Str → Option Value) : Prop where
  len : mg "len" = none
  abs : mg "abs" = none
  int : mg "int" = none
  list : mg "list" = none
  tuple : mg "tuple" = none
  enumerate : mg "enumerate" = none
  range : mg "range" = none
  min : mg "min" = none
  max : mg "max" = none
  sorted : mg "sorted" = none
  isinstance : mg "isinstance" = none
  zip : mg "zip" = none
  all : mg "all" = none
  str : mg "str" = none
  bool : mg "bool" = none
  any : mg "any" = none
  repr : mg "repr" = none
  set : mg "set" = none
  sum : mg "sum" = none
  reversed : mg "reversed" = none
  dict : mg "dict" = none

/-! ### a def as its callers know it -/
structure Cal (P : Program) (w : World) (K : PySem.W.Frag) (mg : Str → Option Value) (base : Heap) (k : Nat) (x : Str) (ps : List Str) (sp : Sp) : Prop where
  ex : ∃ f fd, FnOk P w K mg base CX0 k f fd ps sp ∧ mg x = some (.ref f) ∧ PySem.W.keepIn K (.ref f) = true ∧ Binds K fd ps []
theorem Cal.mono {P : Program} {w : World} {K : PySem.W.Frag} {mg : Str → Option Value} {base : Heap} {j k : Nat} {x : Str} {ps : List Str} {sp : Sp} (C : Cal P w K mg base j x ps sp) (h : j ≤ k := by first | decide | omega) : Cal P w K mg base k x ps sp := by
  obtain ⟨f, fd, F, r⟩ := C.ex
  exact ⟨f, fd, F.mono h, r⟩
section
variable {X : Cx} {k n : Nat} {x : Str} {ps : List Str} {sp : Sp} {p pos : Pos} {e : Expr} {es : List Expr} {t : TA}
theorem pe_cal (C : Cal X.prog X.w X.K X.mg X.base k x ps sp) (hr : Room n X.A) (ha : PA X (e :: es) t) (hle : k ≤ n := by first | decide | omega) (hg : Gl X x := by rfl) (hdb : (x == ("__debug__" : Str)) = false := by decide)
    (he : starEach (e :: es) X.env = (false, eval e X.env) :: starEach es X.env := by rfl) (hpl : (backTo pos (starEach es X.env)).any (·.1) = false := by rfl) :
    PE X (.Call (.Name x p) (e :: es) [] pos) (tCall sp [] E0 t) := by
  obtain ⟨f, fd, F, hm, hk, hb⟩ := C.ex
  exact pe_call F (hr.mono hle) hg hm hk hb .nil pass0 ha (hdb := hdb) (he := he) (hpl := hpl)
end

/-! ### drawing -/
def spTake : Sp := fun vs H Q _ => ∃ (b : Addr) (many : Int), vs = [.ref b, .int many] ∧ IsBox H b ∧ 0 < many ∧ many < 1073741824 ∧
  ∀ (v : Int) (H' : Hp), Oth b H H' → IsBox H' b → 0 ≤ v → v < many → Q (.int v) H'
def spBox : Sp := fun vs H Q _ => ∃ (a : Addr) (ns : List Int) (k : Nat), vs = [.ref a, .int k] ∧ H a = some (.lst (ns.map V.int)) ∧ k < ns.length ∧ k < 1000 ∧
  ∀ (b : Addr) (H' : Hp), Same H H' → H b = none → IsBox H' b → Q (.ref b) H'
def spCells (K : PySem.W.Frag) : Sp := fun vs H Q _ => ∃ (a : Addr) (ns : List Int) (u : Nat), vs = [.ref a, .int u] ∧ SqL K H a (ns.map V.int) ∧ ns.length ≤ 63 ∧ 0 < u ∧ u ≤ 3 ∧
  ∀ (c : Addr) (ms : List Int) (H' : Hp), Same H H' → H c = none → H' c = some (.lst (ms.map V.int)) → 0 < ms.length → ms.length ≤ 3 → Q (.ref c) H'
end Lk
set_option maxRecDepth 100000
set_option maxHeartbeats 4000000
namespace Lk
open PySem PySem.Spec PyProof.Rows L2

/-! ### texts and names -/
abbrev tlx (x : Str) : List Nat := x.cps.toList
theorem len_tlx (x : Str) : x.length = (tlx x).length := by
  show x.cps.size = x.cps.toList.length
  rw [Array.length_toList]
theorem tlx_app (x y : Str) : tlx (x ++ y) = tlx x ++ tlx y := by
  show (x.cps ++ y.cps).toList = _
  rw [Array.toList_append]
theorem str_ext {x y : Str} (h : tlx x = tlx y) : x = y := by
  obtain ⟨a⟩ := x
  obtain ⟨b⟩ := y
  have e : a = b := Array.toList_inj.mp h
  rw [e]
def Low (l : List Nat) : Prop := ∀ c ∈ l, 97 ≤ c ∧ c ≤ 122
def NameOk (x : Str) : Prop := 1 ≤ (tlx x).length ∧ (tlx x).length ≤ 8 ∧ Low (tlx x)
theorem NameOk.len {x : Str} (h : NameOk x) : x.length ≤ 8 := by rw [len_tlx]; exact h.2.1
def Good (x : Str) : Prop := PyData.strOk x = true
def Goods (xs : List Str) : Prop := ∀ x ∈ xs, Good x
theorem NameOk.good {x : Str} (h : NameOk x) : Good x := by
  show x.cps.all (· < 0x110000) = true
  rw [← Array.all_toList, List.all_eq_true]
  intro c hc
  have q := h.2.2 c hc
  exact decide_eq_true (by omega)
theorem lmin_good {x y : Str} (hx : Good x) (hy : Good y) : Good (lmin x y) := by
  unfold lmin
  split
  · exact hy
  · exact hx
theorem lmax_good {x y : Str} (hx : Good x) (hy : Good y) : Good (lmax x y) := by
  unfold lmax
  split
  · exact hy
  · exact hx
def abc : Str := "abcdefghijklmnopqrstuvwxyz"
theorem abc_at : ∀ i : Nat, i < 26 → (tlx abc)[i]? = some (97 + i) := by decide +kernel
theorem abc_len : abc.length = 26 := by decide +kernel
theorem abc_ix {i : Int} (h0 : 0 ≤ i) (h1 : i < 26) : atI (tlx abc) i = some (97 + i.toNat) := by
  have e : i = ((i.toNat : Nat) : Int) := by omega
  have q := atI_nat (abc_at i.toNat (by omega))
  rw [← e] at q
  exact q
theorem Low.one {n : Nat} (h : n < 26) : Low [97 + n] := fun c hc => by
  have e : c = 97 + n := by simpa using hc
  omega
theorem join0 : ∀ ys : List Str, tlx (Txt.join ("" : Str) ys) = (ys.map tlx).flatten := by
  intro ys
  rw [TL.join_eq]
  refine (TL.tl_join _ _).trans ?_
  have e : TL.tl ("" : Str) = [] := by decide +kernel
  rw [e]
  have g : ∀ l : List (List Nat), TL.joinL [] l = l.flatten := by
    intro l
    induction l with
    | nil => rfl
    | cons a r ih =>
      cases r with
      | nil => simp [TL.joinL]
      | cons b r =>
        show a ++ ([] ++ TL.joinL [] (b :: r)) = _
        rw [ih]
        simp
  exact g (ys.map TL.tl)
def IsOne (x : Str) : Prop := ∃ n : Nat, n < 26 ∧ x = ⟨#[97 + n]⟩
theorem ones_flat : ∀ {ys : List Str}, (∀ y ∈ ys, IsOne y) → ((ys.map tlx).flatten).length = ys.length ∧ Low (ys.map tlx).flatten
  | [], _ => ⟨rfl, fun _ h => nomatch h⟩
  | y :: r, h => by
    obtain ⟨e1, e2⟩ := ones_flat (ys := r) fun z hz => h z (List.mem_cons_of_mem _ hz)
    obtain ⟨n, hn, rfl⟩ := h y List.mem_cons_self
    constructor
    · rw [List.map_cons, List.flatten_cons, List.length_append, e1]
      simp
      omega
    · rw [List.map_cons, List.flatten_cons]
      intro c hc
      rcases List.mem_append.mp hc with q | q
      · have e : c = 97 + n := by simpa using q
        omega
      · exact e2 c q
theorem ones_len : ∀ {ys : List Str}, (∀ y ∈ ys, IsOne y) → (ys.map (·.length)).sum = ys.length
  | [], _ => rfl
  | y :: r, h => by
    have ih := ones_len (ys := r) fun z hz => h z (List.mem_cons_of_mem _ hz)
    obtain ⟨n, hn, rfl⟩ := h y List.mem_cons_self
    rw [List.map_cons, List.sum_cons, ih, List.length_cons]
    show 1 + r.length = _
    omega
theorem cutS_tlx (z : Str) (lo hi : Option Int) : tlx (cutS z lo hi) = cutL (tlx z) lo hi := by
  unfold cutS cutL
  show (List.toArray _).toList = _
  rw [List.toList_toArray, len_tlx]
theorem Low.cut {l : List Nat} {lo hi : Option Int} (h : Low l) : Low (cutL l lo hi) := fun c hc => h c (List.mem_of_mem_drop (List.mem_of_mem_take hc))
theorem Low.app {l m : List Nat} (h : Low l) (h' : Low m) : Low (l ++ m) := fun c hc => (List.mem_append.mp hc).elim (h c) (h' c)
theorem apart {step : Int} (hs : step = 1 ∨ step = 3 ∨ step = 7 ∨ step = 25) {i j : Nat} (h : j < i) (hi : i < 26) (f : Int) : (f + step * (i : Int)) % 26 ≠ (f + step * (j : Int)) % 26 := by
  rcases hs with rfl | rfl | rfl | rfl <;> omega
/-- a text's last sign -/
def lastC (x : Str) : Option Nat := (tlx x).getLast?
theorem lastC_app (x : Str) (n : Nat) : lastC (x ++ ⟨#[n]⟩) = some n := by
  unfold lastC
  rw [tlx_app]
  simp
theorem ins_perm {α : Type} (l : List α) (p : Nat) (x : α) : (l.take p ++ [x] ++ l.drop p).Perm (x :: l) := by
  have e : l.take p ++ [x] ++ l.drop p = l.take p ++ x :: l.drop p := by simp
  rw [e]
  refine List.perm_middle.trans ?_
  rw [List.take_append_drop]
theorem ins_map {α : Type} (f : α → V) (l : List α) (p : Nat) (x : α) : (l.map f).take p ++ [f x] ++ (l.map f).drop p = (l.take p ++ [x] ++ l.drop p).map f := by
  rw [List.map_append, List.map_append, List.map_take, List.map_drop]
  rfl

/-! ### the order of texts -/
theorem lmin_or (x y : Str) : (lmin x y = x ∧ lmax x y = y) ∨ (lmin x y = y ∧ lmax x y = x) := by
  unfold lmin lmax
  by_cases h : y.cps.toList < x.cps.toList
  · rw [if_pos h, if_neg (List.lt_asymm h)]
    exact .inr ⟨rfl, rfl⟩
  · rw [if_neg h]
    by_cases h2 : x.cps.toList < y.cps.toList
    · rw [if_pos h2]
      exact .inl ⟨rfl, rfl⟩
    · rw [if_neg h2]
      have e : x = y := str_ext (List.le_antisymm h h2)
      subst e
      exact .inl ⟨rfl, rfl⟩
theorem lpair_comm (x y : Str) : (lmin x y, lmax x y) = (lmin y x, lmax y x) := by
  unfold lmin lmax
  by_cases h : y.cps.toList < x.cps.toList
  · rw [if_pos h, if_neg (List.lt_asymm h), if_neg (List.lt_asymm h), if_pos h]
  · by_cases h2 : x.cps.toList < y.cps.toList
    · rw [if_neg h, if_pos h2, if_pos h2, if_neg h]
    · have e : x = y := str_ext (List.le_antisymm h h2)
      subst e
      rfl
/-- friends, as a law has them: each pair a least and a greatest -/
def PalsOk (ps : List (Str × Str)) : Prop := ∀ p ∈ ps, ∃ m q, Good m ∧ Good q ∧ p = (lmin m q, lmax m q)
def frd (ps : List (Str × Str)) (a b : Str) : Bool := decide ((a, b) ∈ ps ∨ (b, a) ∈ ps)
theorem frd_comm (ps : List (Str × Str)) (a b : Str) : frd ps a b = frd ps b a := by
  unfold frd
  exact decide_eq_decide.mpr Or.comm
theorem frd_pair {ps : List (Str × Str)} (h : PalsOk ps) (a b : Str) : decide ((lmin a b, lmax a b) ∈ ps) = frd ps a b := by
  unfold frd
  refine decide_eq_decide.mpr ⟨fun q => ?_, fun q => ?_⟩
  · rcases lmin_or a b with ⟨e1, e2⟩ | ⟨e1, e2⟩
    · rw [e1, e2] at q; exact .inl q
    · rw [e1, e2] at q; exact .inr q
  · rcases q with q | q
    · obtain ⟨m, n, _, _, e⟩ := h _ q
      have e1 : a = lmin m n := (Prod.mk.inj e).1
      have e2 : b = lmax m n := (Prod.mk.inj e).2
      rcases lmin_or m n with ⟨f1, f2⟩ | ⟨f1, f2⟩
      · rw [f1] at e1; rw [f2] at e2; subst e1 e2; rw [← e]; exact q
      · rw [f1] at e1; rw [f2] at e2; subst e1 e2; rw [lpair_comm, ← e]; exact q
    · obtain ⟨m, n, _, _, e⟩ := h _ q
      have e1 : b = lmin m n := (Prod.mk.inj e).1
      have e2 : a = lmax m n := (Prod.mk.inj e).2
      rcases lmin_or m n with ⟨f1, f2⟩ | ⟨f1, f2⟩
      · rw [f1] at e1; rw [f2] at e2; subst e1 e2; rw [lpair_comm, ← e]; exact q
      · rw [f1] at e1; rw [f2] at e2; subst e1 e2; rw [← e]; exact q

theorem menu4 {v : Int} (h0 : 0 ≤ v) (h1 : v < 4) : ∃ step : Int, (step = 1 ∨ step = 3 ∨ step = 7 ∨ step = 25) ∧ atI [V.int 1, V.int 3, V.int 7, V.int 25] v = some (.int step) := by
  have e : v = 0 ∨ v = 1 ∨ v = 2 ∨ v = 3 := by omega
  rcases e with rfl | rfl | rfl | rfl
  · exact ⟨1, by simp, rfl⟩
  · exact ⟨3, by simp, rfl⟩
  · exact ⟨7, by simp, rfl⟩
  · exact ⟨25, by simp, rfl⟩
theorem name_ok {stem : Str} {hi : Option Int} {n : Nat} (h1 : (tlx stem).length ≤ 7) (h2 : Low (tlx stem)) (hn : n < 26) : NameOk (cutS stem none hi ++ ⟨#[97 + n]⟩) := by
  have e : tlx (cutS stem none hi ++ ⟨#[97 + n]⟩) = cutL (tlx stem) none hi ++ [97 + n] := by rw [tlx_app, cutS_tlx]
  have q := cutL_le (tlx stem) none hi
  refine ⟨?_, ?_, ?_⟩
  · rw [e]; simp
  · rw [e, List.length_append, List.length_singleton]; omega
  · rw [e]; exact (Low.cut h2).app (Low.one hn)

/-! ### friends as they stand -/
abbrev B3 := Addr × Str × Str
def refs (bs : List B3) : List V := bs.map fun b => V.ref b.1
def PairsAt (H : Hp) (bs : List B3) : Prop := ∀ b ∈ bs, H b.1 = some (.tup [.str b.2.1, .str b.2.2])
theorem PairsAt.same {H H' : Hp} {bs : List B3} (s : Same H H') (h : PairsAt H bs) : PairsAt H' bs := fun b hb => s _ _ (h b hb)
theorem PairsAt.oth {H H' : Hp} {b : Addr} {bs : List B3} (s : Oth b H H') (hb : IsBox H b) (h : PairsAt H bs) : PairsAt H' bs := fun c hc => s _ _ (hb.ne_tup (h c hc)) (h c hc)
/-- a target for a tuple or a list -/
def gOrM (t u : TG) : TG := fun v σ H Q => t v σ H Q ∨ u v σ H Q
theorem pg_orM {X : Cx} {tg : Expr} {t u : TG} (a : PG X tg t) (b : PG X tg u) : PG X tg (gOrM t u) := pg_or2 a b
/-- .. or as lists of two -/
def PairsB (H : Hp) (bs : List B3) : Prop := ∀ b ∈ bs, H b.1 = some (.tup [.str b.2.1, .str b.2.2]) ∨ H b.1 = some (.lst [.str b.2.1, .str b.2.2])
theorem PairsAt.b {H : Hp} {bs : List B3} (h : PairsAt H bs) : PairsB H bs := fun c hc => .inl (h c hc)
theorem PairsB.same {H H' : Hp} {bs : List B3} (s : Same H H') (h : PairsB H bs) : PairsB H' bs := fun b hb => (h b hb).imp (s _ _) (s _ _)
/-- FRIENDS as a tuple -/
def PalsAt (H : Hp) (a : Addr) (ps : List (Str × Str)) : Prop := ∃ bs : List B3, H a = some (.tup (refs bs)) ∧ PairsAt H bs ∧ ps = bs.map (·.2)
theorem PalsAt.same {H H' : Hp} {a : Addr} {ps : List (Str × Str)} (s : Same H H') (h : PalsAt H a ps) : PalsAt H' a ps := by
  obtain ⟨bs, h1, h2, h3⟩ := h
  exact ⟨bs, s _ _ h1, h2.same s, h3⟩
theorem PalsAt.oth {H H' : Hp} {a b : Addr} {ps : List (Str × Str)} (s : Oth b H H') (hb : IsBox H b) (h : PalsAt H a ps) : PalsAt H' a ps := by
  obtain ⟨bs, h1, h2, h3⟩ := h
  exact ⟨bs, s _ _ (hb.ne_tup h1) h1, h2.oth s hb, h3⟩
/-- .. or a list of these -/
def FrAt (H : Hp) (a : Addr) (ps : List (Str × Str)) : Prop := ∃ bs : List B3, (H a = some (.tup (refs bs)) ∨ H a = some (.lst (refs bs))) ∧ PairsB H bs ∧ ps = bs.map (·.2)
theorem PalsAt.fr {H : Hp} {a : Addr} {ps : List (Str × Str)} (h : PalsAt H a ps) : FrAt H a ps := by
  obtain ⟨bs, h1, h2, h3⟩ := h
  exact ⟨bs, .inl h1, h2.b, h3⟩
theorem FrAt.same {H H' : Hp} {a : Addr} {ps : List (Str × Str)} (s : Same H H') (h : FrAt H a ps) : FrAt H' a ps := by
  obtain ⟨bs, h1, h2, h3⟩ := h
  exact ⟨bs, h1.elim (fun e => .inl (s _ _ e)) (fun e => .inr (s _ _ e)), h2.same s, h3⟩
/-- what _law_pals tells of a pair -/
def OfPool (pool : List Str) (ps : List (Str × Str)) : Prop := ∀ p ∈ ps, ∃ m q, m ∈ pool ∧ q ∈ pool ∧ m ≠ q ∧ p = (lmin m q, lmax m q)
theorem OfPool.ok {pool : List Str} {ps : List (Str × Str)} (h : OfPool pool ps) (hg : Goods pool) : PalsOk ps := fun p hp => by
  obtain ⟨m, q, h1, h2, _, e⟩ := h p hp
  exact ⟨m, q, hg m h1, hg q h2, e⟩
theorem OfPool.irr {pool : List Str} {ps : List (Str × Str)} (h : OfPool pool ps) (x : Str) : frd ps x x = false := by
  unfold frd
  refine decide_eq_false fun z => ?_
  have z' : (x, x) ∈ ps := z.elim id id
  obtain ⟨m, q, _, _, ne, e⟩ := h _ z'
  have e1 := (Prod.mk.inj e).1
  have e2 := (Prod.mk.inj e).2
  rcases lmin_or m q with ⟨f1, f2⟩ | ⟨f1, f2⟩
  · exact ne ((f1.symm.trans e1.symm).trans (e2.trans f2))
  · exact ne ((f2.symm.trans e2.symm).trans (e1.trans f1))
def PGood (ps : List (Str × Str)) : Prop := ∀ p ∈ ps, Good p.1 ∧ Good p.2
theorem PalsOk.good {ps : List (Str × Str)} (h : PalsOk ps) : PGood ps := fun p hp => by
  obtain ⟨m, q, h1, h2, e⟩ := h p hp
  rw [e]
  exact ⟨lmin_good h1 h2, lmax_good h1 h2⟩
def spPals : Sp := fun vs H Q _ => ∃ (b l : Addr) (pool : List Str), vs = [.ref b, .ref l] ∧ IsBox H b ∧ H l = some (.lst (pool.map V.str)) ∧ pool.Nodup ∧ pool.length ≤ 26 ∧
  ∀ (a : Addr) (bs : List B3) (H' : Hp), Oth b H H' → IsBox H' b → H a = none → H' a = some (.tup (refs bs)) → PairsAt H' bs → OfPool pool (bs.map (·.2)) → bs.length ≤ 1000 → (∃ cs : List B3, bs = cs.mergeSort (PySem.W.dataLe false encP)) → Q (.ref a) H'

def spNames : Sp := fun vs H Q _ => ∃ (b : Addr) (many : Nat), vs = [.ref b, .int many] ∧ IsBox H b ∧ many ≤ 26 ∧
  ∀ (l : Addr) (names : List Str) (H' : Hp), Oth b H H' → IsBox H' b → H l = none → H' l = some (.lst (names.map V.str)) → names.length = many → names.Nodup → (∀ x ∈ names, NameOk x) → Q (.ref l) H'
end Lk
set_option maxRecDepth 100000
set_option maxHeartbeats 4000000
namespace Lk
open PySem PySem.Spec PyProof.Rows L2
theorem u65 {k : Nat} {A : Around} (r : Room k A) : A.units + 65 < cLine := by have := r.un; omega

/-! ### data -/
def encQ (p : Str × Str) : PyData := .tuple [.str p.1, .str p.2]
theorem eqv_strs : ∀ xs ys : List Str, PyData.eqvAll (xs.map .str) (ys.map .str) = decide (xs = ys)
  | [], [] => by simp [PyData.eqvAll]
  | [], _ :: _ => by simp [PyData.eqvAll]
  | _ :: _, [] => by simp [PyData.eqvAll]
  | x :: xs, y :: ys => by
    rw [List.map_cons, List.map_cons, PyData.eqvAll, eqv_strs xs ys]
    by_cases h : x = y
    · subst h
      simp [PyData.eqv]
    · simp [PyData.eqv, h]
theorem eqv_pair (p q : Str × Str) : PyData.eqv (encQ p) (encQ q) = decide (p = q) := by
  obtain ⟨a, b⟩ := p
  obtain ⟨c, d⟩ := q
  have e := eqv_strs [a, b] [c, d]
  have e2 : PyData.eqv (encQ (a, b)) (encQ (c, d)) = PyData.eqvAll ([a, b].map .str) ([c, d].map .str) := by simp [encQ, PyData.eqv]
  rw [e2, e]
  refine decide_eq_decide.mpr ?_
  simp
theorem lay_strs : ∀ {xs : List Str}, Goods xs → PyData.canLayAll0 (xs.map .str) = true
  | [], _ => by simp [PyData.canLayAll0]
  | x :: xs, h => by
    have h1 : PyData.strOk x = true := h x List.mem_cons_self
    simp [PyData.canLayAll0, PyData.canLay0, h1, lay_strs (xs := xs) fun y hy => h y (List.mem_cons_of_mem _ hy)]
theorem dep_strs : ∀ xs : List Str, PyData.depthAll (xs.map .str) = 0
  | [] => by simp [PyData.depthAll]
  | x :: xs => by simp [PyData.depthAll, PyData.depth, dep_strs xs]
theorem sh_list {xs : List Str} (h : Goods xs) : SeqAt.shaped (.list (xs.map .str)) = true := by
  show (PyData.canLay0 (.list (xs.map .str)) && decide (PyData.depth (.list (xs.map .str)) ≤ 64)) = true
  simp [PyData.canLay0, PyData.depth, lay_strs h, dep_strs]
theorem sh_tuple {xs : List Str} (h : Goods xs) : SeqAt.shaped (.tuple (xs.map .str)) = true := by
  show (PyData.canLay0 (.tuple (xs.map .str)) && decide (PyData.depth (.tuple (xs.map .str)) ≤ 64)) = true
  simp [PyData.canLay0, PyData.depth, lay_strs h, dep_strs]
theorem lay_pairs : ∀ {ps : List (Str × Str)}, PGood ps → PyData.canLayAll0 (ps.map encQ) = true
  | [], _ => by simp [PyData.canLayAll0]
  | p :: ps, h => by
    have h1 : PyData.strOk p.1 = true := (h p List.mem_cons_self).1
    have h2 : PyData.strOk p.2 = true := (h p List.mem_cons_self).2
    simp [PyData.canLayAll0, PyData.canLay0, encQ, h1, h2, lay_pairs (ps := ps) fun y hy => h y (List.mem_cons_of_mem _ hy)]
theorem dep_pairs : ∀ ps : List (Str × Str), PyData.depthAll (ps.map encQ) ≤ 1
  | [] => by simp [PyData.depthAll]
  | p :: ps => by
    have := dep_pairs ps
    simp only [List.map_cons, PyData.depthAll, encQ, PyData.depth]
    omega
theorem sh_pals {ps : List (Str × Str)} (h : PGood ps) : SeqAt.shaped (.tuple (ps.map encQ)) = true := by
  show (PyData.canLay0 (.tuple (ps.map encQ)) && decide (PyData.depth (.tuple (ps.map encQ)) ≤ 64)) = true
  have := dep_pairs ps
  have e : PyData.depth (.tuple (ps.map encQ)) ≤ 64 := by
    simp only [PyData.depth]
    omega
  rw [decide_eq_true e, Bool.and_true]
  simp only [PyData.canLay0]
  exact lay_pairs h
theorem goods2 {x y : Str} (hx : Good x) (hy : Good y) : Goods [x, y] := fun z hz => by
  rcases List.mem_cons.mp hz with rfl | hz
  · exact hx
  · have e : z = y := by simpa using hz
    rw [e]
    exact hy
theorem sh_pair {p : Str × Str} (h : Good p.1 ∧ Good p.2) : SeqAt.shaped (encQ p) = true := sh_tuple (xs := [p.1, p.2]) (goods2 h.1 h.2)
section
variable {K : PySem.W.Frag} {H : Hp}
theorem dp_strs : ∀ xs : List Str, DpAll K H (xs.map V.str) (xs.map .str)
  | [] => .nil
  | x :: xs => .cons (.str x) (dp_strs xs)
theorem dp_list {a : Addr} {xs : List Str} (h : H a = some (.lst (xs.map V.str))) : Dp K H (.ref a) (.list (xs.map .str)) := .lst (.inl (.inl h)) (dp_strs xs)
theorem dp_tuple {a : Addr} {xs : List Str} (h : H a = some (.tup (xs.map V.str))) : Dp K H (.ref a) (.tuple (xs.map .str)) := .tup (.inl (.inl h)) (dp_strs xs)
theorem dp_pairs : ∀ {bs : List B3}, PairsAt H bs → DpAll K H (refs bs) ((bs.map (·.2)).map encQ)
  | [], _ => .nil
  | b :: bs, h => .cons (dp_tuple (xs := [b.2.1, b.2.2]) (h b List.mem_cons_self)) (dp_pairs (bs := bs) fun c hc => h c (List.mem_cons_of_mem _ hc))
theorem dp_pals {a : Addr} {ps : List (Str × Str)} (h : PalsAt H a ps) : Dp K H (.ref a) (.tuple (ps.map encQ)) := by
  obtain ⟨bs, h1, h2, rfl⟩ := h
  exact .tup (.inl (.inl h1)) (dp_pairs h2)
end
theorem any_pair (ps : List (Str × Str)) (p : Str × Str) : ((ps.map encQ).any fun z => PyData.eqv z (encQ p)) = decide (p ∈ ps) := by
  rw [List.any_map]
  induction ps with
  | nil => rfl
  | cons q r ih =>
    rw [List.any_cons, ih]
    show (PyData.eqv (encQ q) (encQ p) || _) = _
    rw [eqv_pair]
    by_cases h : q = p
    · subst h
      simp
    · have h' : ¬ p = q := fun z => h z.symm
      simp [h, h']

/-! ### tuples whose object is known to have no dict: their methods may be called -/
def TupAt (H : Hp) (t : Addr) (xs : List V) : Prop := ∃ o : Obj, o.dict = none ∧ H t = some (.frz o (.tup xs))
theorem TupAt.same {H H' : Hp} {t : Addr} {xs : List V} (s : Same H H') (h : TupAt H t xs) : TupAt H' t xs := by
  obtain ⟨o, h1, h2⟩ := h
  exact ⟨o, h1, s _ _ h2⟩
theorem TupAt.sq {K : PySem.W.Frag} {H : Hp} {t : Addr} {xs : List V} (h : TupAt H t xs) : SqT K H t xs := by
  obtain ⟨o, _, h2⟩ := h
  exact .inl (.inr ⟨o, h2⟩)
theorem TupAt.ne {H : Hp} {b t : Addr} {xs : List V} (h : TupAt H t xs) (hb : IsBox H b) : t ≠ b := by
  obtain ⟨o, _, h2⟩ := h
  obtain ⟨i, j, k, e⟩ := hb
  exact ne_of h2 e (fun z => nomatch z)
theorem TupAt.ne_new {H : Hp} {p t : Addr} {xs : List V} (h : TupAt H t xs) (hp : H p = none) : t ≠ p := by
  obtain ⟨o, _, h2⟩ := h
  exact ne_of_none h2 hp
theorem TupAt.oth {H H' : Hp} {b t : Addr} {xs : List V} (s : Oth b H H') (hb : IsBox H b) (h : TupAt H t xs) : TupAt H' t xs := by
  have n := h.ne hb
  obtain ⟨o, h1, h2⟩ := h
  exact ⟨o, h1, s _ _ n h2⟩
/-- all but what stands at l, as it was -/
theorem TupAt.upd_ {H : Hp} {l t : Addr} {xs ys : List V} {o' : HO} (h : TupAt H t xs) (hl : H l = some (.lst ys)) : TupAt (upd H l o') t xs := by
  obtain ⟨o, h1, h2⟩ := h
  exact ⟨o, h1, (upd_ne (ne_of h2 hl (fun z => nomatch z))).trans h2⟩
theorem cutV_whole {xs : List V} {lo hi : Option Int} (h : HT.sIx xs.length 0 lo = 0 ∧ HT.sIx xs.length xs.length hi = xs.length) : cutV xs lo hi = xs := by
  unfold cutV
  rw [h.1, h.2, List.drop_zero, Nat.sub_zero, List.take_of_length_le (Nat.le_refl _)]
section
variable {X : Cx}
theorem laid_tup {pins : List (Addr × Obj)} {σ : L2.St} {H : Hp} {s : Shared} {xs : List V} {its : List Value} (I : Inv X pins σ H s) (hz : xs.length ≤ sizeLine) (r : Vals xs its) :
    Inv X pins σ (upd H s.heap.objs.size (.frz { cls := .type "tuple", data := .seq its.toArray } (.tup xs))) { s with heap := s.heap.push { cls := .type "tuple", data := .seq its.toArray } } :=
  I.laid (t' := s.toks) (fun b ob q => Heap.get?_push_of_some _ q) (Nat.le_refl _) ⟨Heap.get?_push_size _ rfl, hz, its, r, IsTup.new _ _⟩
def tTupF (t : TA) : TE := fun σ H Q => t σ H fun xs H1 => xs.length ≤ sizeLine ∧ ∀ p H', Same H1 H' → H1 p = none → TupAt H' p xs → Q (.ref p) H'
theorem pe_tupF {es : List Expr} {t : TA} {pos : Pos} {x1} (h : PA X es t) : PE X (.Tuple es x1 pos) (tTupF t) := by
  refine ⟨fun pins s σ H Q I hq => ?_⟩
  refine wpAny_Tuple_spliced (thn (h.run pos pins s σ H _ I hq) fun us s1 ⟨xs, H1, I1, r, z, q⟩ => ⟨by rw [← r.length]; exact z, ?_⟩)
  have hf : H1 s1.heap.objs.size = none := I1.hok.fresh (Nat.le_refl _)
  exact ⟨.ref s1.heap.objs.size, _, laid_tup I1 z r, rfl, q _ _ (same_upd hf) hf ⟨_, rfl, upd_same⟩⟩
theorem call_tupleF : CallR X (.type "tuple") (fun xs H Q => ∃ p ys, xs = [.ref p] ∧ ((SqL X.K H p ys ∧ ∀ l H', Same H H' → H l = none → TupAt H' l ys → Q (.ref l) H') ∨ (SqT X.K H p ys ∧ Q (.ref p) H))) := by
  intro pins s σ H xs us Q I r h
  obtain ⟨p, ys, rfl, h⟩ := h
  obtain ⟨u, rfl, rx⟩ := vals1 r
  cases rx
  rcases h with ⟨hq, q⟩ | ⟨hq, q⟩
  · obtain ⟨its, r', pl, hz⟩ := I.list hq
    have hlen := r'.length
    refine call_tuple_list pl.isList (fun h' kp => ?_) (by simp only [List.size_toArray] <;> omega)
    have I1 : Inv X pins σ H { s with heap := h' } := I.kept (t' := s.toks) kp
    have hf := I1.hok.fresh (Nat.le_refl _)
    exact ⟨.ref h'.objs.size, _, laid_tup I1 hz r', rfl, q _ _ (same_upd hf) hf ⟨_, rfl, upd_same⟩⟩
  · obtain ⟨its, r', pl, hz⟩ := I.tuple hq
    exact call_tuple_same pl ⟨.ref p, H, I, rfl, q⟩
def rSlM : V → Option Int → Option Int → Hp → VK → Prop := fun x lo hi H Q => ∃ a xs, x = .ref a ∧ TupAt H a xs ∧ ∀ t H', Same H H' → TupAt H' t (cutV xs lo hi) → Q (.ref t) H'
theorem sl_tupM : SlR X rSlM := by
  intro pins s σ H x v vl vu lo hi sl Q I rx hs pl pu h
  obtain ⟨a, xs, rfl, ha, q⟩ := h
  by_cases hw : HT.sIx xs.length 0 lo = 0 ∧ HT.sIx xs.length xs.length hi = xs.length
  · exact sl_tupA pins s σ H _ v vl vu lo hi sl Q I rx hs pl pu ⟨a, xs, rfl, ha.sq, fun _ => q a H (Same.refl H) (by rw [cutV_whole hw]; exact ha), fun z => absurd hw z⟩
  · cases rx
    obtain ⟨its, r, ht, hz⟩ := I.tuple (ha.sq (K := X.K))
    have hlen : its.toArray.size = xs.length := by rw [List.size_toArray]; exact r.length.symm
    refine ⟨"tuple", _, PyProof.Rows.slot_tuple_getitem.lookup, ht.typeIs, ?_⟩
    refine HT.getItem_tuple_cut ht hs pl pu (by rw [hlen]; exact hw) ?_ (by rw [hlen]; exact hz)
    rw [hlen]
    have hf : H s.heap.objs.size = none := I.hok.fresh (Nat.le_refl _)
    exact ⟨.ref s.heap.objs.size, _, laid_tup (xs := cutV xs lo hi) I (Nat.le_trans (cutV_length xs lo hi) hz) ((r.drop (HT.sIx xs.length 0 lo)).take (HT.sIx xs.length xs.length hi - HT.sIx xs.length 0 lo)), rfl, q _ _ (same_upd hf) ⟨_, rfl, upd_same⟩⟩
def rCatM : R2 := fun x y H Q => ∃ a b xs ys, x = .ref a ∧ y = .ref b ∧ TupAt H a xs ∧ TupAt H b ys ∧ xs.length + ys.length ≤ sizeLine ∧ ∀ t H', Same H H' → TupAt H' t (xs ++ ys) → Q (.ref t) H'
theorem op_catM : OpR X (binaryOp .Add) rCatM := by
  intro pins s σ H x y v u Q I rx ry h
  obtain ⟨a, b, xs, ys, rfl, rfl, ha, hb, hz, q⟩ := h
  cases rx
  cases ry
  obtain ⟨its, r1, p1, _⟩ := I.tuple (ha.sq (K := X.K))
  obtain ⟨its2, r2, p2, _⟩ := I.tuple (hb.sq (K := X.K))
  by_cases hx : xs = []
  · subst hx
    cases r1
    exact cat_tup0 p1 p2 ⟨.ref b, H, I, rfl, q b H (Same.refl H) hb⟩
  · refine HT.cat_tup p1 p2 (fun z => hx (r1.nil_iff.mp z)) (fun z => ⟨.ref a, H, I, rfl, q a H (Same.refl H) ?_⟩) (fun z => ?_) (by rw [← r1.length, ← r2.length]; exact hz)
    · rw [r2.nil_iff.mp z, List.append_nil]
      exact ha
    · have hf : H s.heap.objs.size = none := I.hok.fresh (Nat.le_refl _)
      exact ⟨.ref s.heap.objs.size, _, laid_tup (xs := xs ++ ys) I (by rw [List.length_append]; exact hz) (r1.append r2), rfl, q _ _ (same_upd hf) ⟨_, rfl, upd_same⟩⟩
/-- o.m(e, ..) of such a tuple -/
def tBMT (r : V → List V → Hp → VK → Prop) (to : TE) (t : TA) : TE := fun σ H Q => to σ H fun x H1 => (∃ a xs, x = .ref a ∧ TupAt H1 a xs) ∧ t σ H1 fun xs H2 => r x xs H2 Q
theorem pe_bmT {o e : Expr} {es : List Expr} {to : TE} {t : TA} {name : Str} {apos cpos : Pos} {id : String} {r : V → List V → Hp → VK → Prop} (slot : Slot "tuple" name id) (hty : typeOf (.builtin id) = pure (.type "method_descriptor")) (hm : MtR X id r) (ho : PE X o to) (ha : PA X (e :: es) t)
    (hbase : attributeBase o name X.env (eval o X.env) = eval o X.env := by rfl)
    (hfew : ((backTo cpos (starEach (e :: es) X.env)).all (fun x => !x.1) && (backToKw cpos (keywordEach [] X.env)).all (fun x => x.1.isSome)
      && decide ((e :: es).length + ([] : List Keyword).length + (if ([] : List Keyword).isEmpty then 0 else 1) < 30)) = true := by rfl)
    (hline : (apos.endLine == cpos.line) = true := by rfl) (hs : starEach (e :: es) X.env = (false, eval e X.env) :: starEach es X.env := by rfl) (hplain : (backTo cpos (starEach es X.env)).any (·.1) = false := by rfl) :
    PE X (.Call (.Attribute o name apos) (e :: es) [] cpos) (tBMT r to t) := by
  refine ⟨fun pins s σ H Q I h => ?_⟩
  refine wpAny_Call_method_late hbase hfew hline rfl (thn (ho.run pins s σ H _ I h) fun v s1 ⟨x, H1, I1, r1, ty, q1⟩ => ?_)
  obtain ⟨a, xs, ea, oo, hd, hH⟩ := ty
  subst ea
  cases r1
  obtain ⟨g1, g2⟩ := I1.hok _ _ hH
  obtain ⟨_, its, rv, o', g3, g4, _⟩ := g2
  have h1 : s1.TypeIs (.ref a) "tuple" := ⟨o', g3, g4⟩
  have h2 : ∀ b, Value.ref a = .ref b → ∃ ob, s1.heap.get? b = some ob ∧ ob.dict = none := fun b eb => by
    cases eb
    exact ⟨oo, g1, hd⟩
  refine ⟨"tuple", id, PySem.F.plainAttrs_tuple, slot, hty, h1, h2, ?_⟩
  have hA := ha.run cpos pins s1 σ H1 _ I1 q1
  rw [hs] at hA ⊢
  refine Calls.callWith_builtin (by show (false || (backTo cpos (starEach es X.env)).any (·.1)) = false; rw [hplain] <;> rfl) (Calls.evalArgs_plain ?_)
  exact thn hA fun us s2 ⟨vs, H2, I2, r2, q2⟩ => hm pins s2 σ H2 (.ref a) vs (.ref a) us Q I2 rfl r2 q2
/-- a list of texts != [] -/
def rNeNil : R2 := fun x y H Q => ∃ (a b : Addr) (ys : List Str), x = .ref a ∧ y = .ref b ∧ H a = some (.lst (ys.map V.str)) ∧ H b = some (.lst []) ∧ Goods ys ∧ Q (.bl (!decide (ys = []))) H
theorem op_neNil (hu : X.A.units + 64 < cLine) : OpR X (compareOp .NotEq) rNeNil := by
  intro pins s σ H x y v u Q I rx ry h
  obtain ⟨a, b, ys, rfl, rfl, ha, hb, hg, q⟩ := h
  refine op_neD hu pins s σ H _ _ v u Q I rx ry ⟨_, _, dp_list ha, dp_list (xs := []) hb, sh_list hg, sh_list (xs := []) (fun _ h => nomatch h), ?_⟩
  have e : PyData.eqv (.list (ys.map .str)) (.list (([] : List Str).map .str)) = decide (ys = []) := by
    rw [PyData.eqv, eqv_strs]
  rw [e]
  exact q
/-- two tuples of texts -/
def rEqT : R2 := fun x y H Q => ∃ (a b : Addr) (xs ys : List Str), x = .ref a ∧ y = .ref b ∧ TupAt H a (xs.map V.str) ∧ TupAt H b (ys.map V.str) ∧ Goods xs ∧ Goods ys ∧ Q (.bl (decide (xs = ys))) H
theorem op_eqT (hu : X.A.units + 64 < cLine) : OpR X (compareOp .Eq) rEqT := by
  intro pins s σ H x y v u Q I rx ry h
  obtain ⟨a, b, xs, ys, rfl, rfl, ha, hb, g1, g2, q⟩ := h
  refine op_eqD hu pins s σ H _ _ v u Q I rx ry ⟨_, _, .tup ha.sq (dp_strs xs), .tup hb.sq (dp_strs ys), sh_tuple g1, sh_tuple g2, ?_⟩
  have e : PyData.eqv (.tuple (xs.map .str)) (.tuple (ys.map .str)) = decide (xs = ys) := by
    rw [PyData.eqv, eqv_strs]
  rw [e]
  exact q
end

/-! ### a row: a tuple or a list of names -/
def RowAt (H : Hp) (a : Addr) (row : List Str) : Prop := TupAt H a (row.map V.str) ∨ H a = some (.lst (row.map V.str))
theorem RowAt.same {H H' : Hp} {a : Addr} {row : List Str} (s : Same H H') (h : RowAt H a row) : RowAt H' a row := h.elim (fun e => .inl (e.same s)) (fun e => .inr (s _ _ e))

/-! ### where one comes to -/
def lastP {α : Type} (p : α → Bool) : List α → Option Nat
  | [] => none
  | x :: r => match lastP p r with
    | some k => some (k + 1)
    | none => if p x then some 0 else none
theorem lastP_app {α : Type} (p : α → Bool) (x : α) : ∀ l : List α, lastP p (l ++ [x]) = if p x then some l.length else lastP p l
  | [] => by simp [lastP]
  | y :: l => by
    show (match lastP p (l ++ [x]) with | some k => some (k + 1) | none => if p y then some 0 else none) = _
    rw [lastP_app p x l]
    by_cases h : p x = true
    · rw [if_pos h, if_pos h]
      rfl
    · rw [if_neg h, if_neg h]
      rfl
theorem lastP_take {α : Type} (p : α → Bool) {xs : List α} {i : Nat} {x : α} (h : xs[i]? = some x) : lastP p (xs.take (i + 1)) = if p x then some i else lastP p (xs.take i) := by
  have hi : i < xs.length := (List.getElem?_eq_some_iff.mp h).1
  rw [List.take_add_one, h]
  show lastP p (xs.take i ++ [x]) = _
  rw [lastP_app, List.length_take, Nat.min_eq_left (Nat.le_of_lt hi)]
theorem lastP_some {α : Type} {p : α → Bool} : ∀ {l : List α} {k : Nat}, lastP p l = some k → ∃ x, l[k]? = some x ∧ p x = true ∧ ∀ j y, k < j → l[j]? = some y → p y = false
  | [], k, h => by cases h
  | x :: r, k, h => by
    unfold lastP at h
    cases e : lastP p r with
    | some j =>
      rw [e] at h
      have hk : j + 1 = k := Option.some.inj h
      subst hk
      obtain ⟨y, h1, h2, h3⟩ := lastP_some e
      refine ⟨y, h1, h2, fun j' z hj hz => ?_⟩
      match j', hj, hz with
      | j' + 1, hj, hz => exact h3 j' z (by omega) hz
    | none =>
      rw [e] at h
      by_cases hx : p x = true
      · simp only [hx, if_true] at h
        have hk : 0 = k := Option.some.inj h
        subst hk
        refine ⟨x, rfl, hx, fun j' z hj hz => ?_⟩
        match j', hj, hz with
        | j' + 1, hj, hz => exact lastP_none e j' z hz
      · simp only [hx] at h
        cases h
where lastP_none {α : Type} {p : α → Bool} : ∀ {l : List α}, lastP p l = none → ∀ (j : Nat) (y : α), l[j]? = some y → p y = false
  | [], _, j, y, h => by simp at h
  | x :: r, e, j, y, h => by
    unfold lastP at e
    cases e2 : lastP p r with
    | some k => rw [e2] at e; cases e
    | none =>
      rw [e2] at e
      by_cases hx : p x = true
      · simp only [hx, if_true] at e
        cases e
      · match j, h with
        | 0, h =>
          have : x = y := Option.some.inj h
          subst this
          exact Bool.eq_false_iff.mpr hx
        | j + 1, h => exact lastP_none e2 j y h
theorem lastP_nil {α : Type} {p : α → Bool} : ∀ {l : List α}, lastP p l = none ↔ l.filter p = []
  | [] => by simp [lastP]
  | x :: r => by
    have ih := lastP_nil (p := p) (l := r)
    unfold lastP
    cases e : lastP p r with
    | some k =>
      have : ¬ r.filter p = [] := fun z => by rw [ih.mpr z] at e; cases e
      rw [List.filter_cons]
      by_cases hx : p x = true
      · simp [hx]
      · simp [hx, this]
    | none =>
      have z := ih.mp e
      rw [List.filter_cons, z]
      by_cases hx : p x = true
      · simp [hx]
      · simp [hx]
theorem Goods.perm {xs ys : List Str} (h : Goods xs) (p : ys.Perm xs) : Goods ys := fun x hx => h x (p.mem_iff.mp hx)
theorem Goods.at_ {xs : List Str} {i : Nat} {x : Str} (h : Goods xs) (e : xs[i]? = some x) : Good x := h x (List.mem_of_getElem? e)
theorem Goods.filter {xs : List Str} {p : Str → Bool} (h : Goods xs) : Goods (xs.filter p) := fun x hx => h x (List.mem_filter.mp hx).1
def spotOf (ps : List (Str × Str)) (stand : List Str) (x : Str) : Nat := match lastP (frd ps x) stand with
  | some k => k + 1
  | none => stand.length
def comeTo (ps : List (Str × Str)) (stand : List Str) (x : Str) : List Str := stand.take (spotOf ps stand x) ++ [x] ++ stand.drop (spotOf ps stand x)
def standOf (ps : List (Str × Str)) (order : List Str) : List Str := order.foldl (comeTo ps) []
theorem come_perm (ps : List (Str × Str)) (stand : List Str) (x : Str) : (comeTo ps stand x).Perm (x :: stand) := ins_perm _ _ _
theorem standOf_app (ps : List (Str × Str)) (o : List Str) (x : Str) : standOf ps (o ++ [x]) = comeTo ps (standOf ps o) x := by
  unfold standOf
  rw [List.foldl_append]
  rfl
theorem stand_perm_from (ps : List (Str × Str)) : ∀ (o stand : List Str), (o.foldl (comeTo ps) stand).Perm (o ++ stand)
  | [], stand => List.Perm.refl _
  | x :: o, stand => by
    show (o.foldl (comeTo ps) (comeTo ps stand x)).Perm _
    refine (stand_perm_from ps o _).trans ?_
    refine ((come_perm ps stand x).append_left o).trans ?_
    exact List.perm_middle
theorem stand_perm (ps : List (Str × Str)) (o : List Str) : (standOf ps o).Perm o := by
  have h := stand_perm_from ps o []
  rw [List.append_nil] at h
  exact h

/-! ### promises -/
def spAre : Sp := fun vs H Q _ => ∃ (a : Addr) (ps : List (Str × Str)) (x y : Str), vs = [.ref a, .str x, .str y] ∧ PalsAt H a ps ∧ PalsOk ps ∧ Good x ∧ Good y ∧ ∀ H', Same H H' → Q (.bl (frd ps x y)) H'
def spCome : Sp := fun vs H Q _ => ∃ (a t : Addr) (ps : List (Str × Str)) (stand : List Str) (x : Str), vs = [.ref a, .ref t, .str x] ∧ PalsAt H a ps ∧ PalsOk ps ∧ TupAt H t (stand.map V.str) ∧ Goods stand ∧ Good x ∧ stand.length ≤ 100 ∧
  ∀ t' H', Same H H' → TupAt H' t' ((comeTo ps stand x).map V.str) → Q (.ref t') H'
def spStandOf : Sp := fun vs H Q _ => ∃ (a l : Addr) (ps : List (Str × Str)) (some_ : List Str), vs = [.ref a, .ref l] ∧ PalsAt H a ps ∧ PalsOk ps ∧ H l = some (.lst (some_.map V.str)) ∧ Goods some_ ∧ some_.length ≤ 100 ∧
  ∀ t' H', Same H H' → TupAt H' t' ((standOf ps some_).map V.str) → Q (.ref t') H'
def spStrewn : Sp := fun vs H Q _ => ∃ (b l : Addr) (pool : List Str), vs = [.ref b, .ref l] ∧ IsBox H b ∧ RowAt H l pool ∧ pool.length ≤ 100 ∧
  ∀ (p : Addr) (order : List Str) (H' : Hp), Oth b H H' → IsBox H' b → H p = none → H' p = some (.lst (order.map V.str)) → order.Perm pool → Q (.ref p) H'
def spThinned : Sp := fun vs H Q _ => ∃ (t : Addr) (stand : List Str) (x : Str), vs = [.ref t, .str x] ∧ TupAt H t (stand.map V.str) ∧ stand.length ≤ 100 ∧
  ∀ t' H', Same H H' → TupAt H' t' ((stand.filter fun y => !decide (y = x)).map V.str) → Q (.ref t') H'
def spFine : Sp := fun vs H Q _ => ∃ (b a l : Addr) (ps : List (Str × Str)) (pool : List Str), vs = [.ref b, .ref a, .ref l] ∧ IsBox H b ∧ PalsAt H a ps ∧ PalsOk ps ∧ H l = some (.lst (pool.map V.str)) ∧ Goods pool ∧ pool.length ≤ 100 ∧
  ∀ (t : Addr) (order : List Str) (H' : Hp), Oth b H H' → IsBox H' b → TupAt H' t ((standOf ps order).map V.str) → order.Perm pool → Q (.ref t) H'
def spAny : Sp := fun vs H Q _ => ∃ (b a l : Addr) (ps : List (Str × Str)) (pool : List Str), vs = [.ref b, .ref a, .ref l] ∧ IsBox H b ∧ PalsAt H a ps ∧ PalsOk ps ∧ H l = some (.lst (pool.map V.str)) ∧ Goods pool ∧ pool.Nodup ∧ pool.length ≤ 100 ∧
  ∀ (t : Addr) (stand : List Str) (H' : Hp), Oth b H H' → IsBox H' b → TupAt H' t (stand.map V.str) → stand.Perm pool → Q (.ref t) H'
end Lk
set_option maxRecDepth 100000
set_option maxHeartbeats 4000000
namespace Lk
open PySem PySem.Spec PyProof.Rows L2
/-- a tuple that is tracked, either way -/
def TupX (H : Hp) (a : Addr) (xs : List V) : Prop := H a = some (.tup xs) ∨ TupAt H a xs
theorem TupX.same {H H' : Hp} {a : Addr} {xs : List V} (s : Same H H') (h : TupX H a xs) : TupX H' a xs := h.elim (fun e => .inl (s _ _ e)) (fun e => .inr (e.same s))
theorem TupX.sq {K : PySem.W.Frag} {H : Hp} {a : Addr} {xs : List V} (h : TupX H a xs) : SqT K H a xs := h.elim (fun e => .inl (.inl e)) (fun e => e.sq)
theorem TupX.ty {K : PySem.W.Frag} {H : Hp} {a : Addr} {xs : List V} (h : TupX H a xs) : TyX K H (.ref a) (.type "tuple") := h.elim (fun e => .base (.tup e)) (fun ⟨_, _, e⟩ => .fTuple e)
/-- two values that _law_same tells to be the same: scalars, lists, tuples, at most n deep -/
def Alk (H : Hp) : Nat → V → V → Prop
  | 0, _, _ => False
  | n + 1, x, y => ((x = .non ∨ (∃ b, x = .bl b) ∨ (∃ i, x = .int i) ∨ ∃ z, x = .str z) ∧ y = x) ∨
    (∃ a b xs ys, x = .ref a ∧ y = .ref b ∧ H a = some (.lst xs) ∧ H b = some (.lst ys) ∧ xs.length = ys.length ∧ xs.length ≤ 1000 ∧ ∀ (i : Nat) (u v : V), xs[i]? = some u → ys[i]? = some v → Alk H n u v) ∨
    (∃ a b xs ys, x = .ref a ∧ y = .ref b ∧ TupX H a xs ∧ TupX H b ys ∧ xs.length = ys.length ∧ xs.length ≤ 1000 ∧ ∀ (i : Nat) (u v : V), xs[i]? = some u → ys[i]? = some v → Alk H n u v)
theorem Alk.same {H H' : Hp} (s : Same H H') : ∀ {n : Nat} {x y : V}, Alk H n x y → Alk H' n x y
  | 0, _, _, h => h.elim
  | n + 1, x, y, h => by
    rcases h with h | ⟨a, b, xs, ys, e1, e2, h1, h2, hl, hz, h⟩ | ⟨a, b, xs, ys, e1, e2, h1, h2, hl, hz, h⟩
    · exact .inl h
    · exact .inr (.inl ⟨a, b, xs, ys, e1, e2, s _ _ h1, s _ _ h2, hl, hz, fun i u v hu hv => Alk.same s (h i u v hu hv)⟩)
    · exact .inr (.inr ⟨a, b, xs, ys, e1, e2, h1.same s, h2.same s, hl, hz, fun i u v hu hv => Alk.same s (h i u v hu hv)⟩)
theorem alk_bl {H : Hp} {n : Nat} (b : Bool) : Alk H (n + 1) (.bl b) (.bl b) := .inl ⟨.inr (.inl ⟨b, rfl⟩), rfl⟩
def spSame (n : Nat) : Sp := fun vs H Q _ => ∃ x y, vs = [x, y] ∧ Alk H n x y ∧ ∀ H', Same H H' → Q (.bl true) H'
theorem walk_zipT {K : PySem.W.Frag} {a b : Addr} {xs ys : List V} {n : Nat} (hn : n = min xs.length ys.length) : Walk (RZ.ItzT K a b) n (fun H => SqT K H a xs ∧ SqT K H b ys) (YPair (fun i => xs[i]?) (fun i => ys[i]?)) := by
  subst hn
  refine ⟨fun i _ hi q => ?_, fun _ q => ⟨xs, ys, q.1, q.2, by omega⟩, fun i H v H' _ q y => ?_⟩
  · have h1 : i < xs.length := by omega
    have h2 : i < ys.length := by omega
    exact ⟨xs, ys, xs[i], ys[i], q.1, q.2, by simp [h1], by simp [h2]⟩
  · obtain ⟨T, x, z, h1, h2, h3, h4, h5⟩ := y
    exact ⟨T, x, z, h1, h2, h3, h4 xs q.1, h5 ys q.2⟩
end Lk
set_option maxRecDepth 100000
set_option maxHeartbeats 4000000
namespace Lk
open PySem PySem.Spec PyProof.Rows L2

/-! ### the dict of friends, either way about -/
def k2 (a b : Str) : List Key := [Sum.inr a, Sum.inr b]
theorem k2_inj {a b c d : Str} : k2 a b = k2 c d ↔ a = c ∧ b = d := by
  unfold k2
  simp
def KnAt (H : Hp) (d : Addr) (ps : List (Str × Str)) : Prop := ∃ kvs, H d = some (.dT kvs) ∧ ∀ a b, (valV kvs (k2 a b)).isSome = frd ps a b
theorem KnAt.same {H H' : Hp} {d : Addr} {ps : List (Str × Str)} (s : Same H H') (h : KnAt H d ps) : KnAt H' d ps := by
  obtain ⟨kvs, h1, h2⟩ := h
  exact ⟨kvs, s _ _ h1, h2⟩
theorem putK_len {kvs : List (List Key × V)} {k : List Key} {v : V} : (putK kvs k v).length ≤ kvs.length + 1 := by
  unfold putK
  split
  · rw [List.length_map]
    omega
  · rw [List.length_append]
    exact Nat.le_refl _
theorem frd_app (ps : List (Str × Str)) (p : Str × Str) (a b : Str) : frd (ps ++ [p]) a b = (frd ps a b || decide ((a, b) = p) || decide ((b, a) = p)) := by
  unfold frd
  by_cases h1 : (a, b) ∈ ps <;> by_cases h2 : (b, a) ∈ ps <;> by_cases h3 : (a, b) = p <;> by_cases h4 : (b, a) = p <;> simp [h1, h2, h3, h4]
theorem both_put {kvs : List (List Key × V)} {ps : List (Str × Str)} (h : ∀ a b, (valV kvs (k2 a b)).isSome = frd ps a b) (x y : Str) (u v : V) (a b : Str) :
    (valV (putK (putK kvs (k2 x y) u) (k2 y x) v) (k2 a b)).isSome = frd (ps ++ [(x, y)]) a b := by
  rw [valV_put, valV_put, frd_app, ← h a b]
  by_cases h1 : k2 a b = k2 y x
  · rw [if_pos h1]
    obtain ⟨e1, e2⟩ := k2_inj.mp h1
    subst e1 e2
    simp
  · rw [if_neg h1]
    have n1 : ¬ (b, a) = (x, y) := fun z => h1 (k2_inj.mpr ⟨(Prod.mk.inj z).2, (Prod.mk.inj z).1⟩)
    by_cases h2 : k2 a b = k2 x y
    · rw [if_pos h2]
      obtain ⟨e1, e2⟩ := k2_inj.mp h2
      subst e1 e2
      simp
    · rw [if_neg h2]
      have n2 : ¬ (a, b) = (x, y) := fun z => h2 (k2_inj.mpr ⟨(Prod.mk.inj z).1, (Prod.mk.inj z).2⟩)
      simp [n1, n2]

/-! ### places, words -/
def optW (c : Bool) (w : Str) : List Str := if c = true then [w] else []
def lfpV : Option Nat → V
  | none => .non
  | some k => .int k
theorem inV_strs (x : Str) (xs : List Str) : inV (.str x) (xs.map V.str) = decide (x ∈ xs) := by
  unfold inV
  rw [List.any_map]
  induction xs with
  | nil => rfl
  | cons y r ih =>
    rw [List.any_cons, ih]
    show ((y == x) || _) = _
    by_cases h : y = x
    · subst h
      simp
    · have h' : ¬ x = y := fun z => h z.symm
      simp [h, h']
theorem filter_last {α : Type} (p : α → Bool) : ∀ l : List α, (l.filter p).getLast? = (lastP p l).bind fun k => l[k]?
  | [] => rfl
  | x :: r => by
    have ih := filter_last p r
    unfold lastP
    cases e : lastP p r with
    | some k =>
      rw [e] at ih
      have ne : r.filter p ≠ [] := fun z => by rw [lastP_nil.mpr z] at e; cases e
      have ih' : (r.filter p).getLast? = r[k]? := ih
      rw [List.filter_cons]
      show _ = (x :: r)[k + 1]?
      rw [List.getElem?_cons_succ, ← ih']
      split
      · obtain ⟨y, l, e2⟩ : ∃ y l, r.filter p = y :: l := by
          cases h : r.filter p with
          | nil => exact absurd h ne
          | cons y l => exact ⟨y, l, rfl⟩
        rw [e2, List.getLast?_cons_cons]
      · rfl
    | none =>
      rw [List.filter_cons, lastP_nil.mp e]
      by_cases hx : p x = true
      · rw [if_pos hx]
        simp [hx]
      · simp [hx]
theorem lastP_lt {α : Type} {p : α → Bool} {l : List α} {k : Nat} (h : lastP p l = some k) : k < l.length := by
  obtain ⟨x, hx, _⟩ := lastP_some h
  exact (List.getElem?_eq_some_iff.mp hx).1
def btw (i j : Nat) : Option Nat → Bool
  | none => false
  | some k => decide (k < j) && decide (j < i)
/-- the words by which one, at place i, bars other, at place j -/
def wordsOf (ps : List (Str × Str)) (row : List Str) (one other : Str) (i j : Nat) : List Str :=
  optW (decide (lastP (frd ps one) (row.take i) = none) && decide (i < j)) "behind" ++
  optW (btw i j (lastP (frd ps one) (row.take i))) "between" ++
  optW (decide (i < j) && frd ps one other) "friend"
theorem words_len (ps : List (Str × Str)) (row : List Str) (one other : Str) (i j : Nat) : (wordsOf ps row one other i j).length ≤ 3 := by
  unfold wordsOf optW
  rw [List.length_append, List.length_append]
  have q : ∀ (c : Bool) (w : Str), (if c = true then [w] else []).length ≤ 1 := fun c w => by cases c <;> simp
  have q1 := q (decide (lastP (frd ps one) (row.take i) = none) && decide (i < j)) "behind"
  have q2 := q (btw i j (lastP (frd ps one) (row.take i))) "between"
  have q3 := q (decide (i < j) && frd ps one other) "friend"
  omega

/-! ### index -/
section
variable {X : Cx}
def rIdxL : V → List V → Hp → VK → Prop := fun x xs H Q => ∃ (a : Addr) (ys : List Str) (z : Str) (j : Nat), x = .ref a ∧ xs = [.str z] ∧ H a = some (.lst (ys.map V.str)) ∧ ys[j]? = some z ∧ (∀ m, m < j → ys[m]? ≠ some z) ∧ Q (.int (j : Nat)) H
theorem mt_idxL : MtR X "list.index" rIdxL := by
  intro pins s σ H x xs v us Q I rx rs h
  obtain ⟨a, ys, z, j, rfl, rfl, ha, hj, hno, q⟩ := h
  refine mt_index pins s σ H _ _ v us Q I rx rs ⟨a, ys.map V.str, .str z, j, .str z, rfl, rfl, .inl (.inl ha), rfl, flat_strs ys, ix_map hj, ?_, fun m z' hm hz' => ?_, q⟩
  · show (z == z) = true
    exact beq_self_eq_true z
  · obtain ⟨y, hy, rfl⟩ := at_map hz'
    show (y == z) = false
    exact beq_eq_false_iff_ne.mpr fun e => hno m hm (by rw [hy, e])
end
theorem nd_first {row : List Str} {i : Nat} {x : Str} (hd : row.Nodup) (h : row[i]? = some x) : ∀ m, m < i → row[m]? ≠ some x := fun m hm e => by
  have := nd_ix hd h e
  omega

/-! ### promises of the program -/
def spBoth : Sp := fun vs H Q _ => ∃ (a : Addr) (ps : List (Str × Str)), vs = [.ref a] ∧ FrAt H a ps ∧ ps.length ≤ 1000 ∧ ∀ d H', Same H H' → H d = none → KnAt H' d ps → Q (.ref d) H'
def spLfp : Sp := fun vs H Q _ => ∃ (d r : Addr) (ps : List (Str × Str)) (row : List Str) (who : Str), vs = [.ref d, .ref r, .str who] ∧ KnAt H d ps ∧ RowAt H r row ∧ row.length ≤ 100 ∧
  ∀ H', Same H H' → Q (lfpV (lastP (frd ps who) row)) H'
def spBarW : Sp := fun vs H Q _ => ∃ (d r : Addr) (ps : List (Str × Str)) (row : List Str) (one other : Str) (i j : Nat), vs = [.ref d, .ref r, .str one, .str other] ∧ KnAt H d ps ∧ RowAt H r row ∧ row.length ≤ 100 ∧ row.Nodup ∧ row[i]? = some one ∧ row[j]? = some other ∧
  ∀ p H', Same H H' → H p = none → H' p = some (.lst ((wordsOf ps row one other i j).map V.str)) → Q (.ref p) H'
/-! ### .. and of the law's own words -/
def hostV (stand : List Str) : Option Nat → V
  | none => .non
  | some k => match stand[k]? with | some y => .str y | none => .non
theorem hostV_some {stand : List Str} {k : Nat} {y : Str} (h : stand[k]? = some y) : hostV stand (some k) = .str y := by
  show (match stand[k]? with | some y => V.str y | none => V.non) = .str y
  rw [h]
def spHost : Sp := fun vs H Q _ => ∃ (a t : Addr) (ps : List (Str × Str)) (stand : List Str) (x : Str) (i : Nat), vs = [.ref a, .ref t, .str x] ∧ PalsAt H a ps ∧ PalsOk ps ∧ TupAt H t (stand.map V.str) ∧ Goods stand ∧ stand.Nodup ∧ stand.length ≤ 100 ∧ stand[i]? = some x ∧
  ∀ H', Same H H' → Q (hostV stand (lastP (frd ps x) (stand.take i))) H'
def spRight : Sp := fun vs H Q _ => ∃ b : Addr, vs = [.ref b] ∧ IsBox H b ∧ ∀ H', Oth b H H' → Q (.bl true) H'
def spLaw (K : PySem.W.Frag) : Sp := fun vs H Q _ => ∃ (a : Addr) (ns : List Int), vs = [.ref a] ∧ SqL K H a (ns.map V.int) ∧ ns.length ≤ 63 ∧ ∀ H', Q (.bl true) H'
def spWords : Sp := fun vs H Q _ => ∃ (a t : Addr) (ps : List (Str × Str)) (stand : List Str) (x y : Str) (i j : Nat), vs = [.ref a, .ref t, .str x, .str y] ∧ PalsAt H a ps ∧ PalsOk ps ∧ TupAt H t (stand.map V.str) ∧ Goods stand ∧ stand.Nodup ∧ stand.length ≤ 100 ∧ stand[i]? = some x ∧ stand[j]? = some y ∧
  ∀ p H', Same H H' → H p = none → H' p = some (.lst ((wordsOf ps stand x y i j).map V.str)) → Q (.ref p) H'
/-! ### calls by keywords that stand in the parameters' order turned about -/
theorem vals_rev : ∀ {xs : List V} {us : List Value}, Vals xs us → Vals xs.reverse us.reverse
  | _, _, .nil => .nil
  | _, _, .cons r t => by
    rw [List.reverse_cons, List.reverse_cons]
    exact (vals_rev t).append (.cons r .nil)
/-- no positional ones, the keywords turned about -/
def gRev {α : Type} : List α → List α → List α
  | [], ws => ws.reverse
  | _ :: _, _ => []
theorem kbinds_rev {K : PySem.W.Frag} {x qual : Str} {st : Stmt} {f : Addr} {fd : FuncData} {ps ks : List Str} (F : Fun K x qual st f fd) (hp : ps ≠ [])
    (h : ∀ (kV doc pm : Value) (an : Option Addr) (cdv ct : Value) (ws : List Value), ws.length = ps.length → bindArgs (PySem.W.fnOf x qual (defArgs st) (defBody st) (defScope st) .none kV doc pm an cdv ct) ⟨[], ks.zip ws⟩ = pure (ps.zip ws.reverse)) :
    KBinds K fd ps ks gRev gRev := by
  obtain ⟨oc, od, kV, doc, pm, an, cdv, ct, osl, rfl, lk, hcd⟩ := F.ex
  refine ⟨fun s us ws _ hl => ?_, fun {vs us zs ws} r1 r2 => ?_⟩
  · cases us with
    | nil =>
      have hl' : ws.reverse.length = ps.length := hl
      rw [List.length_reverse] at hl'
      exact .of_eq (h kV doc pm an cdv ct ws hl')
    | cons u us =>
      have hl' : 0 = ps.length := hl
      exact absurd (List.length_eq_zero_iff.mp hl'.symm) hp
  · cases r1 with
    | nil => exact vals_rev r2
    | cons _ _ => exact .nil
end Lk
set_option maxRecDepth 100000
set_option maxHeartbeats 4000000
namespace Lk
open PySem PySem.Spec PyProof.Rows L2

/-! ### who can have come last -/
theorem lastP_append {α : Type} (p : α → Bool) (b : List α) : ∀ a : List α, lastP p (a ++ b) = match lastP p b with | some k => some (a.length + k) | none => lastP p a
  | [] => by
    show lastP p b = _
    cases lastP p b with
    | none => rfl
    | some k => simp
  | x :: a => by
    have ih := lastP_append p b a
    show (match lastP p (a ++ b) with | some k => some (k + 1) | none => if p x then some 0 else none) = _
    rw [ih]
    cases lastP p b with
    | none => rfl
    | some k =>
      show some (a.length + k + 1) = some ((x :: a).length + k)
      rw [List.length_cons]
      congr 1
      omega
/-- the one at place i is loose -/
def looseB (ps : List (Str × Str)) (row : List Str) (i : Nat) (x : Str) : Bool := match lastP (frd ps x) row with
  | none => decide (i + 1 = row.length)
  | some k => decide (k + 1 = i)
theorem split_at {α : Type} {row : List α} {i : Nat} {x : α} (h : row[i]? = some x) : row = row.take i ++ x :: row.drop (i + 1) := by
  have hi : i < row.length := (List.getElem?_eq_some_iff.mp h).1
  have e := List.getElem?_eq_getElem hi
  rw [h] at e
  have e2 : x = row[i] := Option.some.inj e
  rw [e2, ← List.drop_eq_getElem_cons hi, List.take_append_drop]
theorem ins_eq {α : Type} {a b : List α} {x : α} {s : Nat} (hx : x ∉ a ++ b) (hs : s ≤ (a ++ b).length) (h : (a ++ b).take s ++ [x] ++ (a ++ b).drop s = a ++ x :: b) : s = a.length := by
  have e1 : ((a ++ b).take s ++ [x] ++ (a ++ b).drop s)[s]? = some x := by
    rw [List.append_assoc, List.getElem?_append_right (by rw [List.length_take]; omega), List.length_take, Nat.min_eq_left hs, Nat.sub_self]
    rfl
  rw [h] at e1
  by_cases h1 : s < a.length
  · rw [List.getElem?_append_left h1] at e1
    exact absurd (List.mem_append_left b (List.mem_of_getElem? e1)) hx
  · rw [List.getElem?_append_right (by omega)] at e1
    cases h2 : s - a.length with
    | zero => omega
    | succ m =>
      rw [h2, List.getElem?_cons_succ] at e1
      exact absurd (List.mem_append_right a (List.mem_of_getElem? e1)) hx
theorem loose_iff {ps : List (Str × Str)} {row : List Str} {i : Nat} {x : Str} (hd : row.Nodup) (h : row[i]? = some x) (irr : frd ps x x = false) :
    decide (comeTo ps (row.take i ++ row.drop (i + 1)) x = row) = looseB ps row i x := by
  have hi : i < row.length := (List.getElem?_eq_some_iff.mp h).1
  have sp := split_at h
  generalize ha : row.take i = a at sp
  generalize hb : row.drop (i + 1) = b at sp
  have la : a.length = i := by
    rw [← ha, List.length_take]
    omega
  have nx : x ∉ a ++ b := by
    rw [sp] at hd
    have q : (x :: (a ++ b)).Nodup := (List.perm_middle.nodup_iff).mp hd
    exact (List.nodup_cons.mp q).1
  have lr : row.length = a.length + b.length + 1 := by
    rw [sp, List.length_append, List.length_cons]
    omega
  have key : comeTo ps (a ++ b) x = row ↔ spotOf ps (a ++ b) x = i := by
    constructor
    · intro e
      rw [← la]
      refine ins_eq (s := spotOf ps (a ++ b) x) nx ?_ (e.trans sp)
      unfold spotOf
      split
      · rename_i k ek
        have := lastP_lt ek
        omega
      · exact Nat.le_refl _
    · intro e
      unfold comeTo
      rw [e, ← la, List.take_left' rfl, List.drop_left' rfl, List.append_assoc]
      exact sp.symm
  have e1 : lastP (frd ps x) (x :: b) = (lastP (frd ps x) b).map (· + 1) := by
    show (match lastP (frd ps x) b with | some k => some (k + 1) | none => if frd ps x x then some 0 else none) = _
    rw [irr]
    cases lastP (frd ps x) b <;> rfl
  have e2 : lastP (frd ps x) row = match lastP (frd ps x) (x :: b) with | some k => some (a.length + k) | none => lastP (frd ps x) a := by
    rw [← lastP_append, ← sp]
  have e3 := lastP_append (frd ps x) b a
  rw [e1] at e2
  have fin : (spotOf ps (a ++ b) x = i) ↔ looseB ps row i x = true := by
    unfold looseB spotOf
    rw [e2, e3]
    cases lastP (frd ps x) b with
    | some k =>
      show (a.length + k + 1 = i) ↔ decide (a.length + (k + 1) + 1 = i) = true
      rw [decide_eq_true_eq]
      omega
    | none =>
      cases lastP (frd ps x) a with
      | some k =>
        show (k + 1 = i) ↔ decide (k + 1 = i) = true
        rw [decide_eq_true_eq]
      | none =>
        show ((a ++ b).length = i) ↔ decide (i + 1 = row.length) = true
        rw [decide_eq_true_eq, List.length_append]
        omega
  cases c : looseB ps row i x with
  | true => exact decide_eq_true (key.mpr (fin.mpr c))
  | false => exact decide_eq_false (fun z => by rw [fin.mp (key.mp z)] at c; cases c)
/-- all that are loose, in the row's order -/
def looseL (ps : List (Str × Str)) (row : List Str) : List Str := (row.zipIdx.filter fun p => looseB ps row p.2 p.1).map (·.1)
def looseTo (ps : List (Str × Str)) (row : List Str) (n : Nat) : List Str := ((row.zipIdx.take n).filter fun p => looseB ps row p.2 p.1).map (·.1)
theorem looseTo_step {ps : List (Str × Str)} {row : List Str} {i : Nat} {x : Str} (h : row[i]? = some x) : looseTo ps row (i + 1) = looseTo ps row i ++ if looseB ps row i x = true then [x] else [] := by
  have e : row.zipIdx[i]? = some (x, i) := by
    rw [List.getElem?_zipIdx, h]
    simp
  unfold looseTo
  rw [List.take_add_one, e, List.filter_append, List.map_append]
  show _ ++ List.map (·.1) (List.filter _ [(x, i)]) = _
  rw [List.filter_cons, List.filter_nil]
  show _ ++ List.map (·.1) (if looseB ps row i x = true then [(x, i)] else []) = _
  by_cases c : looseB ps row i x = true
  · rw [if_pos c, if_pos c]
    rfl
  · rw [if_neg c, if_neg c]
    rfl
theorem looseTo_all (ps : List (Str × Str)) (row : List Str) : looseTo ps row row.length = looseL ps row := by
  unfold looseTo looseL
  rw [List.take_of_length_le (by rw [List.length_zipIdx]; exact Nat.le_refl _)]
theorem looseL_mem {ps : List (Str × Str)} {row : List Str} {i : Nat} {x : Str} (hd : row.Nodup) (h : row[i]? = some x) : decide (x ∈ looseL ps row) = looseB ps row i x := by
  unfold looseL
  have e : (x ∈ (row.zipIdx.filter fun p => looseB ps row p.2 p.1).map (·.1)) ↔ looseB ps row i x = true := by
    constructor
    · intro m
      obtain ⟨⟨y, j⟩, hp, rfl⟩ := List.mem_map.mp m
      obtain ⟨h1, h2⟩ := List.mem_filter.mp hp
      have h3 : row[j]? = some y := by
        have q := List.mem_zipIdx_iff_getElem?.mp h1
        exact q
      have ej := nd_ix hd h3 h
      rw [← ej]
      exact h2
    · intro c
      refine List.mem_map.mpr ⟨(x, i), List.mem_filter.mpr ⟨?_, c⟩, rfl⟩
      exact List.mem_zipIdx_iff_getElem?.mpr h
  cases c : looseB ps row i x with
  | true => exact decide_eq_true (e.mpr c)
  | false => exact decide_eq_false (fun z => by rw [e.mp z] at c; cases c)

/-! ### promises -/
def spLooseAt : Sp := fun vs H Q _ => ∃ (d r : Addr) (ps : List (Str × Str)) (row : List Str) (x : Str) (i : Nat), vs = [.ref d, .ref r, .int i] ∧ KnAt H d ps ∧ RowAt H r row ∧ row.length ≤ 100 ∧ row[i]? = some x ∧
  ∀ H', Same H H' → Q (.bl (looseB ps row i x)) H'
end Lk
set_option maxRecDepth 100000
set_option maxHeartbeats 4000000
namespace Lk
open PySem PySem.Spec PyProof.Rows L2

/-! ### whichever go, the same are left -/
def LooseP (ps : List (Str × Str)) (a b : List Str) (x : Str) : Prop :=
  (∀ y ∈ b, frd ps x y = false) ∧ ((∃ a' f, a = a' ++ [f] ∧ frd ps x f = true) ∨ ((∀ y ∈ a, frd ps x y = false) ∧ b = []))
theorem lastP_no {α : Type} {p : α → Bool} {l : List α} : lastP p l = none ↔ ∀ y ∈ l, p y = false := by
  rw [lastP_nil]
  constructor
  · intro h y hy
    cases c : p y with
    | false => rfl
    | true =>
      have m : y ∈ l.filter p := List.mem_filter.mpr ⟨hy, c⟩
      rw [h] at m
      cases m
  · intro h
    refine List.filter_eq_nil_iff.mpr fun y hy => ?_
    rw [h y hy]
    exact Bool.false_ne_true
theorem lastP_end {α : Type} {p : α → Bool} {l : List α} {k : Nat} (h : lastP p l = some k) (e : k + 1 = l.length) : ∃ l' f, l = l' ++ [f] ∧ p f = true := by
  obtain ⟨f, h1, h2, _⟩ := lastP_some h
  refine ⟨l.take k, f, ?_, h2⟩
  have q := split_at h1
  rw [List.drop_eq_nil_of_le (by omega)] at q
  exact q
theorem looseB_iff {ps : List (Str × Str)} {row a b : List Str} {x : Str} (h : row = a ++ x :: b) (irr : frd ps x x = false) : looseB ps row a.length x = true ↔ LooseP ps a b x := by
  have e1 : lastP (frd ps x) (x :: b) = (lastP (frd ps x) b).map (· + 1) := by
    show (match lastP (frd ps x) b with | some k => some (k + 1) | none => if frd ps x x then some 0 else none) = _
    rw [irr]
    cases lastP (frd ps x) b <;> rfl
  have e2 : lastP (frd ps x) row = match lastP (frd ps x) (x :: b) with | some k => some (a.length + k) | none => lastP (frd ps x) a := by
    rw [h]
    exact lastP_append (frd ps x) (x :: b) a
  rw [e1] at e2
  have lr : row.length = a.length + b.length + 1 := by
    rw [h, List.length_append, List.length_cons]
    omega
  unfold looseB LooseP
  rw [e2]
  cases eb : lastP (frd ps x) b with
  | some k =>
    obtain ⟨f, h1, h2, _⟩ := lastP_some eb
    show decide (a.length + (k + 1) + 1 = a.length) = true ↔ _
    rw [decide_eq_true_eq]
    constructor
    · intro z
      omega
    · rintro ⟨z, _⟩
      rw [z f (List.mem_of_getElem? h1)] at h2
      cases h2
  | none =>
    have nb := lastP_no.mp eb
    cases ea : lastP (frd ps x) a with
    | some k =>
      show decide (k + 1 = a.length) = true ↔ _
      rw [decide_eq_true_eq]
      obtain ⟨f, h1, h2, h3⟩ := lastP_some ea
      constructor
      · intro z
        exact ⟨nb, .inl (lastP_end ea z)⟩
      · rintro ⟨_, ⟨a', f', rfl, z⟩ | ⟨z, _⟩⟩
        · rw [List.length_append]
          show k + 1 = a'.length + 1
          have hk := (List.getElem?_eq_some_iff.mp h1).1
          rw [List.length_append] at hk
          have hk' : k < a'.length + 1 := hk
          by_cases c : k < a'.length
          · have q := h3 a'.length f' c (by simp)
            rw [q] at z
            cases z
          · omega
        · rw [z f (List.mem_of_getElem? h1)] at h2
          cases h2
    | none =>
      have na := lastP_no.mp ea
      show decide (a.length + 1 = row.length) = true ↔ _
      rw [decide_eq_true_eq]
      constructor
      · intro z
        exact ⟨nb, .inr ⟨na, List.length_eq_zero_iff.mp (by omega)⟩⟩
      · rintro ⟨_, ⟨a', f', rfl, z⟩ | ⟨_, z⟩⟩
        · rw [na f' (by simp)] at z
          cases z
        · rw [z] at lr
          simpa using lr.symm
def LooseIn (ps : List (Str × Str)) (row : List Str) (x : Str) : Prop := ∃ a b, row = a ++ x :: b ∧ LooseP ps a b x
def Irr (ps : List (Str × Str)) : Prop := ∀ x, frd ps x x = false
def rem (row : List Str) (x : Str) : List Str := row.filter fun y => !decide (y = x)
theorem rem_split {a b : List Str} {x : Str} (hd : (a ++ x :: b).Nodup) : rem (a ++ x :: b) x = a ++ b := by
  have q : (x :: (a ++ b)).Nodup := (List.perm_middle.nodup_iff).mp hd
  have nx := (List.nodup_cons.mp q).1
  unfold rem
  rw [List.filter_append, List.filter_cons]
  have e1 : a.filter (fun y => !decide (y = x)) = a := List.filter_eq_self.mpr fun y hy => by
    have : ¬ y = x := fun z => nx (List.mem_append_left b (z ▸ hy))
    simp [this]
  have e2 : b.filter (fun y => !decide (y = x)) = b := List.filter_eq_self.mpr fun y hy => by
    have : ¬ y = x := fun z => nx (List.mem_append_right a (z ▸ hy))
    simp [this]
  rw [e1, e2]
  simp
theorem rem_nodup {row : List Str} {x : Str} (hd : row.Nodup) : (rem row x).Nodup := hd.filter _
theorem rem_comm (row : List Str) (x y : Str) : rem (rem row x) y = rem (rem row y) x := by
  unfold rem
  rw [List.filter_filter, List.filter_filter]
  refine List.filter_congr fun z _ => ?_
  exact Bool.and_comm _ _
theorem rem_len {row : List Str} {x : Str} (hd : row.Nodup) (hx : x ∈ row) : (rem row x).length + 1 = row.length := by
  obtain ⟨a, b, rfl⟩ := List.append_of_mem hx
  rw [rem_split hd, List.length_append, List.length_append, List.length_cons]
  omega
theorem LooseIn.mem {ps : List (Str × Str)} {row : List Str} {x : Str} (h : LooseIn ps row x) : x ∈ row := by
  obtain ⟨a, b, rfl, _⟩ := h
  simp
theorem split_uniq {row a b c d : List Str} {x : Str} (hd : row.Nodup) (h1 : row = a ++ x :: b) (h2 : row = c ++ x :: d) : a = c ∧ b = d := by
  have e1 : row[a.length]? = some x := by rw [h1]; simp
  have e2 : row[c.length]? = some x := by rw [h2]; simp
  have l := nd_ix hd e1 e2
  have e := h1.symm.trans h2
  have q := List.append_inj e l
  exact ⟨q.1, (List.cons.inj q.2).2⟩
theorem looseL_iff {ps : List (Str × Str)} {row : List Str} {x : Str} (irr : Irr ps) (hd : row.Nodup) : x ∈ looseL ps row ↔ LooseIn ps row x := by
  constructor
  · intro h
    have hx : x ∈ row := by
      unfold looseL at h
      obtain ⟨⟨y, j⟩, hp, rfl⟩ := List.mem_map.mp h
      exact List.mem_of_getElem? (List.mem_zipIdx_iff_getElem?.mp (List.mem_filter.mp hp).1)
    obtain ⟨a, b, e⟩ := List.append_of_mem hx
    have ei : row[a.length]? = some x := by rw [e]; simp
    have q := looseL_mem (ps := ps) hd ei
    rw [decide_eq_true h] at q
    exact ⟨a, b, e, (looseB_iff e (irr x)).mp q.symm⟩
  · rintro ⟨a, b, e, h⟩
    have ei : row[a.length]? = some x := by rw [e]; simp
    have q := looseL_mem (ps := ps) hd ei
    rw [(looseB_iff e (irr x)).mpr h] at q
    exact of_decide_eq_true q
/-- the lemma: of two that are loose each is so without the other -/
theorem diamond {ps : List (Str × Str)} {row : List Str} {x y : Str} (hd : row.Nodup) (hx : LooseIn ps row x) (hy : LooseIn ps row y) (ne : x ≠ y) : LooseIn ps (rem row y) x := by
  obtain ⟨a, b, e, h1, h2⟩ := hx
  have my : y ∈ row := hy.mem
  obtain ⟨c, d, e', g1, g2⟩ := hy
  have my' : y ∈ a ∨ y ∈ b := by
    rw [e] at my
    rcases List.mem_append.mp my with z | z
    · exact .inl z
    · rcases List.mem_cons.mp z with z | z
      · exact absurd z.symm ne
      · exact .inr z
  rcases my' with m | m
  · obtain ⟨a1, a2, rfl⟩ := List.append_of_mem m
    have e2 : row = a1 ++ y :: (a2 ++ x :: b) := by rw [e]; simp
    have er : rem row y = (a1 ++ a2) ++ x :: b := by
      rw [e2, rem_split (by rw [← e2]; exact hd)]
      simp
    refine ⟨a1 ++ a2, b, er, h1, ?_⟩
    obtain ⟨_, u2⟩ := split_uniq hd e2 e'
    rcases h2 with ⟨a', f, ea, hf⟩ | ⟨na, nb⟩
    · rcases List.eq_nil_or_concat a2 with z | ⟨l, g, z⟩
      · subst z
        have q := List.append_inj' ea (by rfl)
        have ey : y = f := (List.cons.inj q.2).1
        have bad := g1 x (by rw [← u2]; simp)
        rw [frd_comm, ey, hf] at bad
        cases bad
      · rw [List.concat_eq_append] at z
        subst z
        have ea' : (a1 ++ y :: l) ++ [g] = a' ++ [f] := by rw [← ea]; simp
        have q := List.append_inj' ea' rfl
        have eg : g = f := (List.cons.inj q.2).1
        exact .inl ⟨a1 ++ l, g, by simp, by rw [eg]; exact hf⟩
    · exact .inr ⟨fun z hz => na z (by
        rcases List.mem_append.mp hz with w | w
        · exact List.mem_append_left _ w
        · exact List.mem_append_right _ (List.mem_cons_of_mem _ w)), nb⟩
  · obtain ⟨b1, b2, rfl⟩ := List.append_of_mem m
    have e2 : row = (a ++ x :: b1) ++ y :: b2 := by rw [e]; simp
    have er : rem row y = a ++ x :: (b1 ++ b2) := by
      rw [e2, rem_split (by rw [← e2]; exact hd)]
      simp
    refine ⟨a, b1 ++ b2, er, fun z hz => h1 z (by
        rcases List.mem_append.mp hz with w | w
        · exact List.mem_append_left _ w
        · exact List.mem_append_right _ (List.mem_cons_of_mem _ w)), ?_⟩
    rcases h2 with h | ⟨_, z⟩
    · exact .inl h
    · exact absurd z (by simp)
/-- one behind the other, loose ones that needn't stay go -/
inductive Red (ps : List (Str × Str)) (stay : List Str) : List Str → List Str → Prop where
  | done (row : List Str) : Red ps stay row row
  | go {row n : List Str} (x : Str) (h : LooseIn ps row x) (hs : x ∉ stay) (t : Red ps stay (rem row x) n) : Red ps stay row n
def Nf (ps : List (Str × Str)) (stay row : List Str) : Prop := ∀ x, LooseIn ps row x → x ∈ stay
theorem Red.swap {ps : List (Str × Str)} {stay row n : List Str} (h : Red ps stay row n) : row.Nodup → Nf ps stay n → ∀ x, LooseIn ps row x → x ∉ stay → Red ps stay (rem row x) n := by
  induction h with
  | done row => intro _ hn x hx hs; exact absurd (hn x hx) hs
  | @go row n y hy ys t ih =>
    intro hd hn x hx hs
    by_cases e : x = y
    · subst e
      exact t
    · have h1 := diamond hd hx hy e
      have h2 := diamond hd hy hx (fun z => e z.symm)
      have q := ih (rem_nodup hd) hn x h1 hs
      rw [rem_comm] at q
      exact .go y h2 ys q
theorem Red.uniq {ps : List (Str × Str)} {stay row n : List Str} (h : Red ps stay row n) : row.Nodup → Nf ps stay n → ∀ m, Red ps stay row m → Nf ps stay m → n = m := by
  induction h with
  | done row =>
    intro _ hn m hm _
    cases hm with
    | done _ => rfl
    | go x hx hs _ => exact absurd (hn x hx) hs
  | @go row n y hy ys t ih =>
    intro hd hn m hm hnm
    exact ih (rem_nodup hd) hn m (hm.swap hd hnm y hy ys) hnm
theorem Red.trans {ps : List (Str × Str)} {stay row n m : List Str} (h : Red ps stay row n) : Red ps stay n m → Red ps stay row m := by
  induction h with
  | done row => exact fun q => q
  | go x hx hs _ ih => exact fun q => .go x hx hs (ih q)
/-- who comes is loose -/
theorem come_loose (ps : List (Str × Str)) (stand : List Str) (x : Str) : LooseIn ps (comeTo ps stand x) x := by
  refine ⟨stand.take (spotOf ps stand x), stand.drop (spotOf ps stand x), by unfold comeTo; simp, ?_, ?_⟩
  · intro y hy
    unfold spotOf at hy
    cases e : lastP (frd ps x) stand with
    | none =>
      rw [e] at hy
      exact lastP_no.mp e y (List.mem_of_mem_drop hy)
    | some k =>
      rw [e] at hy
      obtain ⟨f, h1, h2, h3⟩ := lastP_some e
      obtain ⟨j, hj⟩ := List.mem_iff_getElem?.mp hy
      rw [List.getElem?_drop] at hj
      exact h3 _ y (by show k < k + 1 + j; omega) hj
  · unfold spotOf
    cases e : lastP (frd ps x) stand with
    | none =>
      refine .inr ⟨fun y hy => lastP_no.mp e y (List.mem_of_mem_take hy), ?_⟩
      show stand.drop stand.length = []
      exact List.drop_length
    | some k =>
      obtain ⟨f, h1, h2, h3⟩ := lastP_some e
      refine .inl ⟨stand.take k, f, ?_, h2⟩
      show stand.take (k + 1) = _
      rw [List.take_add_one, h1]
      rfl
theorem come_rem {ps : List (Str × Str)} {stand : List Str} {x : Str} (hd : (x :: stand).Nodup) : rem (comeTo ps stand x) x = stand := by
  have e : comeTo ps stand x = stand.take (spotOf ps stand x) ++ x :: stand.drop (spotOf ps stand x) := by
    unfold comeTo
    simp
  have hn : (comeTo ps stand x).Nodup := (come_perm ps stand x).nodup_iff.mpr hd
  rw [e] at hn ⊢
  rw [rem_split hn, List.take_append_drop]
/-- who is loose, taken out, comes in there again -/
theorem loose_come {ps : List (Str × Str)} {row : List Str} {x : Str} (irr : Irr ps) (hd : row.Nodup) (h : LooseIn ps row x) : comeTo ps (rem row x) x = row := by
  obtain ⟨a, b, e, hp⟩ := h
  have ei : row[a.length]? = some x := by rw [e]; simp
  have q := loose_iff (ps := ps) hd ei (irr x)
  rw [(looseB_iff e (irr x)).mpr hp] at q
  have z := of_decide_eq_true q
  have er : rem row x = row.take a.length ++ row.drop (a.length + 1) := by
    rw [e, rem_split (by rw [← e]; exact hd)]
    simp
  rw [er]
  exact z
/-! ### two more comparisons -/
section
variable {X : Cx}
end
theorem Goods.rem {xs : List Str} {x : Str} (h : Goods xs) : Goods (Lk.rem xs x) := h.filter
theorem looseL_sub {ps : List (Str × Str)} {row : List Str} {x : Str} (h : x ∈ looseL ps row) : x ∈ row := by
  unfold looseL at h
  obtain ⟨⟨y, j⟩, hp, rfl⟩ := List.mem_map.mp h
  exact List.mem_of_getElem? (List.mem_zipIdx_iff_getElem?.mp (List.mem_filter.mp hp).1)
/-! ### promises -/
def spHostP : Sp := fun vs H Q _ => ∃ (d r : Addr) (ps : List (Str × Str)) (row : List Str) (who : Str), vs = [.ref d, .ref r, .str who] ∧ KnAt H d ps ∧ RowAt H r row ∧ row.length ≤ 100 ∧ who ∉ row ∧
  ∀ H', Same H H' → Q (lfpV (lastP (frd ps who) row)) H'
def spStood : Sp := fun vs H Q _ => ∃ (d r : Addr) (ps : List (Str × Str)) (row : List Str) (who : Str), vs = [.ref d, .ref r, .str who] ∧ KnAt H d ps ∧ RowAt H r row ∧ row.length ≤ 100 ∧ who ∉ row ∧
  ∀ t H', Same H H' → TupAt H' t ((comeTo ps row who).map V.str) → Q (.ref t) H'
end Lk
set_option maxRecDepth 100000
set_option maxHeartbeats 4000000
namespace Lk
open PySem PySem.Spec PyProof.Rows L2

/-! ### how many that came later stand ahead -/
abbrev B3N := Addr × Str × Nat
def refsN (qs : List B3N) : List V := qs.map fun q => V.ref q.1
def PairsN (H : Hp) (qs : List B3N) : Prop := ∀ q ∈ qs, H q.1 = some (.tup [.str q.2.1, .int q.2.2])
theorem PairsN.same {H H' : Hp} {qs : List B3N} (s : Same H H') (h : PairsN H qs) : PairsN H' qs := fun b hb => s _ _ (h b hb)
theorem PairsN.oth {H H' : Hp} {b : Addr} {qs : List B3N} (s : Oth b H H') (hb : IsBox H b) (h : PairsN H qs) : PairsN H' qs := fun c hc => s _ _ (hb.ne_tup (h c hc)) (h c hc)
theorem PairsN.upd_ {H : Hp} {l : Addr} {ys : List V} {o' : HO} {qs : List B3N} (hl : H l = some (.lst ys)) (h : PairsN H qs) : PairsN (upd H l o') qs := fun c hc => (upd_ne (ne_of (h c hc) hl (fun z => nomatch z))).trans (h c hc)
theorem idx_at {order : List Str} {i : Nat} {x : Str} (hd : order.Nodup) (h : order[i]? = some x) : order.idxOf x = i := by
  have hx : x ∈ order := List.mem_of_getElem? h
  have hl : order.idxOf x < order.length := List.idxOf_lt_length_iff.mpr hx
  have e : order[order.idxOf x]? = some x := by
    rw [List.getElem?_eq_getElem hl, List.getElem_idxOf]
  exact nd_ix hd e h
/-! ### a walk's dict comprehension -/
theorem putK_lenK {kvs : List (Key × V)} {k : Key} {v : V} : (putK kvs k v).length ≤ kvs.length + 1 := by
  unfold putK
  split
  · rw [List.length_map]
    omega
  · rw [List.length_append]
    exact Nat.le_refl _
/-! ### promises -/
def spRowOf : Sp := fun vs H Q _ => ∃ (a o : Addr) (ps : List (Str × Str)) (order : List Str), vs = [.ref a, .ref o] ∧ FrAt H a ps ∧ ps.length ≤ 1000 ∧ RowAt H o order ∧ order.Nodup ∧ order.length ≤ 100 ∧
  ∀ t H', Same H H' → TupAt H' t ((standOf ps order).map V.str) → Q (.ref t) H'
end Lk
set_option maxRecDepth 100000
set_option maxHeartbeats 4000000
namespace Lk
open PySem PySem.Spec PyProof.Rows L2

/-! ### who goes, one after another: the hindmost one first -/
def someTo (ps : List (Str × Str)) (stay row : List Str) (n : Nat) : List Str := (looseTo ps row n).filter fun x => !decide (x ∈ stay)
def someL (ps : List (Str × Str)) (stay row : List Str) : List Str := (looseL ps row).filter fun x => !decide (x ∈ stay)
theorem someTo_all (ps : List (Str × Str)) (stay row : List Str) : someTo ps stay row row.length = someL ps stay row := by
  unfold someTo someL
  rw [looseTo_all]
theorem someTo_step {ps : List (Str × Str)} {stay row : List Str} {i : Nat} {x : Str} (h : row[i]? = some x) : someTo ps stay row (i + 1) = someTo ps stay row i ++ if (!decide (x ∈ stay) && looseB ps row i x) = true then [x] else [] := by
  unfold someTo
  rw [looseTo_step h, List.filter_append]
  congr 1
  by_cases c : looseB ps row i x = true
  · rw [if_pos c, c, Bool.and_true, List.filter_cons, List.filter_nil]
  · rw [if_neg c]
    simp [c]
theorem someL_sub {ps : List (Str × Str)} {stay row : List Str} {x : Str} (h : x ∈ someL ps stay row) : x ∈ looseL ps row ∧ x ∉ stay := by
  obtain ⟨h1, h2⟩ := List.mem_filter.mp h
  refine ⟨h1, ?_⟩
  simpa using h2
theorem someL_in {ps : List (Str × Str)} {stay row : List Str} {x : Str} (h : x ∈ looseL ps row) (hs : x ∉ stay) : x ∈ someL ps stay row :=
  List.mem_filter.mpr ⟨h, by simpa using hs⟩
def goneN (ps : List (Str × Str)) (stay : List Str) : Nat → List Str → List Str × List Str
  | 0, row => ([], row)
  | n + 1, row => match (someL ps stay row).getLast? with
    | none => ([], row)
    | some x => (x :: (goneN ps stay n (rem row x)).1, (goneN ps stay n (rem row x)).2)
def goneO (ps : List (Str × Str)) (stay row : List Str) : List Str := (goneN ps stay row.length row).1
def goneR (ps : List (Str × Str)) (stay row : List Str) : List Str := (goneN ps stay row.length row).2
theorem gone_none {ps : List (Str × Str)} {stay row : List Str} (h : someL ps stay row = []) : goneO ps stay row = [] ∧ goneR ps stay row = row := by
  unfold goneO goneR
  cases row.length with
  | zero => exact ⟨rfl, rfl⟩
  | succ n =>
    unfold goneN
    rw [h]
    exact ⟨rfl, rfl⟩
theorem last_mem {α : Type} {l : List α} {x : α} (h : l.getLast? = some x) : x ∈ l := by
  obtain ⟨ys, e⟩ := List.getLast?_eq_some_iff.mp h
  rw [e]
  simp
theorem gone_some {ps : List (Str × Str)} {stay row : List Str} {x : Str} (hd : row.Nodup) (h : (someL ps stay row).getLast? = some x) : goneO ps stay row = x :: goneO ps stay (rem row x) ∧ goneR ps stay row = goneR ps stay (rem row x) := by
  have hx := looseL_sub (someL_sub (last_mem h)).1
  have rl := rem_len hd hx
  unfold goneO goneR
  rw [← rl]
  show (goneN ps stay ((rem row x).length + 1) row).1 = _ ∧ _
  unfold goneN
  rw [h]
  cases (rem row x).length <;> exact ⟨rfl, rfl⟩
theorem gone_red {ps : List (Str × Str)} {stay : List Str} (irr : Irr ps) : ∀ (n : Nat) (row : List Str), row.length = n → row.Nodup → Red ps stay row (goneR ps stay row) ∧ Nf ps stay (goneR ps stay row) ∧ (goneO ps stay row).length ≤ n
  | n, row, hn, hd => by
    cases e : (someL ps stay row).getLast? with
    | none =>
      have e' := List.getLast?_eq_none_iff.mp e
      obtain ⟨g1, g2⟩ := gone_none e'
      rw [g1, g2]
      refine ⟨.done row, fun x hx => ?_, Nat.zero_le _⟩
      refine Classical.byContradiction fun c => ?_
      have := someL_in ((looseL_iff irr hd).mpr hx) c
      rw [e'] at this
      cases this
    | some x =>
      obtain ⟨g1, g2⟩ := gone_some hd e
      obtain ⟨m1, m2⟩ := someL_sub (last_mem e)
      have lx := (looseL_iff irr hd).mp m1
      have rl := rem_len hd lx.mem
      match n, hn with
      | 0, hn => omega
      | n + 1, hn =>
        obtain ⟨i1, i2, i3⟩ := gone_red irr n (rem row x) (by omega) (rem_nodup hd)
        rw [g1, g2]
        refine ⟨.go x lx m2 i1, i2, ?_⟩
        rw [List.length_cons]
        omega
theorem Red.nodup {ps : List (Str × Str)} {stay row n : List Str} (h : Red ps stay row n) : row.Nodup → n.Nodup := by
  induction h with
  | done row => exact id
  | go x h hs t ih => exact fun hd => ih (rem_nodup hd)
theorem Red.len {ps : List (Str × Str)} {stay row n : List Str} (h : Red ps stay row n) : n.length ≤ row.length := by
  induction h with
  | done row => exact Nat.le_refl _
  | go x h hs t ih => exact Nat.le_trans ih (List.length_filter_le _ _)
theorem Red.sub {ps : List (Str × Str)} {stay row n : List Str} (h : Red ps stay row n) : ∀ y ∈ n, y ∈ row := by
  induction h with
  | done row => exact fun _ h => h
  | go x h hs t ih => exact fun y hy => (List.mem_filter.mp (ih y hy)).1
theorem erase_rem {row : List Str} {i : Nat} {x : Str} (hd : row.Nodup) (h : row[i]? = some x) : row.eraseIdx i = rem row x := by
  have e := split_at h
  have hi : i < row.length := (List.getElem?_eq_some_iff.mp h).1
  have e2 : rem row x = row.take i ++ row.drop (i + 1) := by
    rw [show rem row x = rem (row.take i ++ x :: row.drop (i + 1)) x by rw [← e]]
    exact rem_split (by rw [← e]; exact hd)
  rw [e2, List.eraseIdx_eq_take_drop_succ]
theorem erase_map {α : Type} (f : α → V) (xs : List α) (i : Nat) : (xs.map f).eraseIdx i = (xs.eraseIdx i).map f := by
  rw [List.eraseIdx_eq_take_drop_succ, List.eraseIdx_eq_take_drop_succ, List.map_append, List.map_take, List.map_drop]

/-! ### promises -/
def ButAt (K : PySem.W.Frag) (H : Hp) (p : Addr) (stay : List Str) : Prop := SqL K H p (stay.map V.str) ∨ SqT K H p (stay.map V.str)
def hindV (row : List Str) (out : Option Str) (v : V) : Prop := match out with
  | none => v = .non
  | some x => ∃ i : Nat, v = .int i ∧ row[i]? = some x
/-- the but list does not change -/
def ButKeeps (K : PySem.W.Frag) (H : Hp) (p : Addr) (stay : List Str) : Prop := ∀ H', Same H H' → ButAt K H' p stay
def spHind (K : PySem.W.Frag) : Sp := fun vs H Q _ => ∃ (d r p : Addr) (ps : List (Str × Str)) (row stay : List Str), vs = [.ref d, .ref r, .ref p] ∧ KnAt H d ps ∧ H r = some (.lst (row.map V.str)) ∧ row.length ≤ 100 ∧ (∀ H', Same H H' → ButAt K H' p stay) ∧
  ∀ v H', Same H H' → hindV row (someL ps stay row).getLast? v → Q v H'
def spStayed (K : PySem.W.Frag) : Sp := fun vs H Q _ => ∃ (d r p : Addr) (ps : List (Str × Str)) (row stay : List Str), vs = [.ref d, .ref r, .ref p] ∧ KnAt H d ps ∧ RowAt H r row ∧ row.Nodup ∧ row.length ≤ 100 ∧ (∀ H', Same H H' → ButAt K H' p stay) ∧
  ∀ T g t H', Same H H' → H g = none → H' T = some (.tup [.ref g, .ref t]) → H' g = some (.lst ((goneO ps stay row).map V.str)) → TupAt H' t ((goneR ps stay row).map V.str) → Q (.ref T) H'
def spGone (K : PySem.W.Frag) : Sp := fun vs H Q _ => ∃ (a r p : Addr) (ps : List (Str × Str)) (row stay : List Str), vs = [.ref a, .ref r, .ref p] ∧ FrAt H a ps ∧ ps.length ≤ 1000 ∧ RowAt H r row ∧ row.Nodup ∧ row.length ≤ 100 ∧ (∀ H', Same H H' → ButAt K H' p stay) ∧
  ∀ T g t H', Same H H' → H g = none → H' T = some (.tup [.ref g, .ref t]) → H' g = some (.lst ((goneO ps stay row).map V.str)) → TupAt H' t ((goneR ps stay row).map V.str) → Q (.ref T) H'
end Lk
set_option maxRecDepth 100000
set_option maxHeartbeats 4000000
namespace Lk
open PySem PySem.Spec PyProof.Rows L2
section
variable {X : Cx}
end
theorem PalsAt.upd_ {H : Hp} {l a : Addr} {ys : List V} {o' : HO} {ps : List (Str × Str)} (h : PalsAt H a ps) (hl : H l = some (.lst ys)) : PalsAt (upd H l o') a ps := by
  obtain ⟨bs, h1, h2, h3⟩ := h
  exact ⟨bs, (upd_ne (ne_of h1 hl (fun z => nomatch z))).trans h1, fun c hc => (upd_ne (ne_of (h2 c hc) hl (fun z => nomatch z))).trans (h2 c hc), h3⟩
/-! ### the law's own going -/
/-! ### a def with one keyword-only parameter that has a default -/
structure Cal3 (P : Program) (w : World) (K : PySem.W.Frag) (mg : Str → Option Value) (base : Heap) (k : Nat) (x : Str) (sp : Sp) (E : Addr) : Prop where
  ex : ∃ f fd, FnOk P w K mg base CX0 k f fd ["friends", "row", "but"] sp ∧ mg x = some (.ref f) ∧ PySem.W.keepIn K (.ref f) = true ∧ KBn K fd ["friends", "row", "but"] 2 ["but"] (fun us ws => us ++ ws) (fun vs zs => vs ++ zs) ∧ KBinds K fd ["friends", "row", "but"] ["but", "row", "friends"] gRev gRev ∧ (∃ ds, Vals [V.ref E] ds ∧ Binds K fd ["friends", "row", "but"] ds) ∧
    (∃ mv : List Value, KBn K fd ["friends", "row", "but"] 0 ["row", "friends"] (fun us ws => ws.reverse ++ mv) (fun vs zs => zs.reverse ++ [V.ref E]))
  emp : ∃ (o : Obj) (n : Nat), K.lookup E = some o ∧ o.cls = .type "tuple" ∧ o.data = .seq #[] n
theorem Cal3.but {P : Program} {w : World} {K : PySem.W.Frag} {mg : Str → Option Value} {base : Heap} {k : Nat} {x : Str} {sp : Sp} {E : Addr} (C : Cal3 P w K mg base k x sp E) (H : Hp) : ButAt K H E [] := by
  obtain ⟨o, n, h1, h2, h3⟩ := C.emp
  exact .inr (.inr ⟨o, #[], n, h1, h2, h3, Nat.zero_le _, .nil⟩)
section
variable {X : Cx} {k : Nat} {x : Str} {sp : Sp} {D : Addr} {p pos : Pos} {e : Expr} {es : List Expr} {t tk : TA} {kws : List Keyword}
end
abbrev p3 : List Str := ["friends", "row", "but"]
end Lk
set_option maxRecDepth 100000
set_option maxHeartbeats 4000000
namespace Lk
open PySem PySem.Spec PyProof.Rows L2

/-! ### of those who are left each bars one of them -/
def Ahead (row : List Str) (h x : Str) : Prop := ∃ a b, row = a ++ x :: b ∧ h ∈ a
theorem frd_sym (ps : List (Str × Str)) (a b : Str) : frd ps a b = frd ps b a := by
  exact frd_comm ps a b
theorem Ahead.mem {row : List Str} {h x : Str} (k : Ahead row h x) : h ∈ row ∧ x ∈ row := by
  obtain ⟨a, b, rfl, m⟩ := k
  exact ⟨List.mem_append_left _ m, by simp⟩
theorem Ahead.lt {row : List Str} {h x : Str} {i j : Nat} (hd : row.Nodup) (k : Ahead row h x) (hi : row[i]? = some h) (hj : row[j]? = some x) : i < j := by
  obtain ⟨a, b, rfl, m⟩ := k
  have e1 : (a ++ x :: b)[a.length]? = some x := by simp
  have e2 := nd_ix hd hj e1
  obtain ⟨n, hn⟩ := List.mem_iff_getElem?.mp m
  have ln : n < a.length := (List.getElem?_eq_some_iff.mp hn).1
  have e3 : (a ++ x :: b)[n]? = some h := by
    rw [List.getElem?_append_left ln]
    exact hn
  have e4 := nd_ix hd hi e3
  omega
theorem rem_app (a b : List Str) {x y : Str} (ne : x ≠ y) : rem (a ++ x :: b) y = rem a y ++ x :: rem b y := by
  unfold rem
  rw [List.filter_append, List.filter_cons]
  simp [ne]
theorem mem_rem {row : List Str} {x y : Str} : x ∈ rem row y ↔ x ∈ row ∧ x ≠ y := by
  unfold rem
  rw [List.mem_filter]
  simp
theorem Ahead.rem {row : List Str} {h x y : Str} (k : Ahead row h x) (n1 : h ≠ y) (n2 : x ≠ y) : Ahead (Lk.rem row y) h x := by
  obtain ⟨a, b, rfl, m⟩ := k
  exact ⟨Lk.rem a y, Lk.rem b y, rem_app a b n2, mem_rem.mpr ⟨m, n1⟩⟩
theorem Ahead.of_rem {row : List Str} {h x y : Str} (hd : row.Nodup) (k : Ahead (Lk.rem row y) h x) : Ahead row h x := by
  have hx := mem_rem.mp k.mem.2
  obtain ⟨a', b', e', m⟩ := k
  obtain ⟨a, b, e⟩ := List.append_of_mem hx.1
  have e2 : Lk.rem row y = Lk.rem a y ++ x :: Lk.rem b y := by rw [e]; exact rem_app a b hx.2
  have u := split_uniq (rem_nodup hd) e' e2
  rw [u.1] at m
  exact ⟨a, b, e, (mem_rem.mp m).1⟩
theorem Red.ahead {ps : List (Str × Str)} {stay row n : List Str} (r : Red ps stay row n) : row.Nodup → ∀ {h x : Str}, Ahead n h x → Ahead row h x := by
  induction r with
  | done row => exact fun _ {h x} k => k
  | go y hy hs t ih => exact fun hd {h x} k => (ih (rem_nodup hd) k).of_rem hd
theorem Red.keeps {ps : List (Str × Str)} {stay row n : List Str} (r : Red ps stay row n) : row.Nodup → ∀ {h x : Str}, x ∈ n → Ahead row h x → frd ps x h = true → Ahead n h x := by
  induction r with
  | done row => exact fun _ {h x} _ k _ => k
  | @go row n y hy hs t ih =>
    intro hd h x hx k hf
    have nx : x ≠ y := (mem_rem.mp (t.sub x hx)).2
    have nh : h ≠ y := fun z => by
      subst z
      obtain ⟨a, b, e, q1, _⟩ := hy
      obtain ⟨a', b', e', m⟩ := k
      have hxb : x ∈ b := by
        have hx' : x ∈ a ++ h :: b := by rw [← e, e']; simp
        rcases List.mem_append.mp hx' with z | z
        · exfalso
          obtain ⟨i, hi⟩ := List.mem_iff_getElem?.mp z
          have li : i < a.length := (List.getElem?_eq_some_iff.mp hi).1
          have r1 : row[i]? = some x := by rw [e, List.getElem?_append_left li]; exact hi
          have r2 : row[a.length]? = some h := by rw [e]; simp
          have := Ahead.lt hd ⟨a', b', e', m⟩ r2 r1
          omega
        · rcases List.mem_cons.mp z with z | z
          · exact absurd z nx
          · exact z
      have := q1 x hxb
      rw [frd_sym] at this
      rw [this] at hf
      cases hf
    exact ih (rem_nodup hd) hx (k.rem nh nx) hf
theorem optW_mem (w : Str) : w ∈ optW true w := by
  unfold optW
  simp
theorem words_friend {ps : List (Str × Str)} {row : List Str} {one other : Str} {i j : Nat} (h : i < j) (f : frd ps one other = true) : wordsOf ps row one other i j ≠ [] := fun z => by
  have m : ("friend" : Str) ∈ wordsOf ps row one other i j := by
    unfold wordsOf
    refine List.mem_append_right _ ?_
    rw [decide_eq_true h, f]
    exact optW_mem _
  rw [z] at m
  cases m
theorem words_behind {ps : List (Str × Str)} {row : List Str} {one other : Str} {i j : Nat} (h : i < j) (f : lastP (frd ps one) (row.take i) = none) : wordsOf ps row one other i j ≠ [] := fun z => by
  have m : ("behind" : Str) ∈ wordsOf ps row one other i j := by
    unfold wordsOf
    refine List.mem_append_left _ (List.mem_append_left _ ?_)
    rw [decide_eq_true h, decide_eq_true f]
    exact optW_mem _
  rw [z] at m
  cases m
theorem words_between {ps : List (Str × Str)} {row : List Str} {one other : Str} {i j k : Nat} (f : lastP (frd ps one) (row.take i) = some k) (h1 : k < j) (h2 : j < i) : wordsOf ps row one other i j ≠ [] := fun z => by
  have m : ("between" : Str) ∈ wordsOf ps row one other i j := by
    unfold wordsOf
    refine List.mem_append_left _ (List.mem_append_right _ ?_)
    rw [f]
    show _ ∈ optW (decide (k < j) && decide (j < i)) "between"
    rw [decide_eq_true h1, decide_eq_true h2]
    exact optW_mem _
  rw [z] at m
  cases m
theorem words_self {ps : List (Str × Str)} {row : List Str} {x : Str} {i : Nat} (hl : i ≤ row.length) : wordsOf ps row x x i i = [] := by
  unfold wordsOf
  rw [decide_eq_false (Nat.lt_irrefl i), Bool.and_false, Bool.false_and]
  have : btw i i (lastP (frd ps x) (row.take i)) = false := by
    unfold btw
    split
    · rfl
    · rw [decide_eq_false (Nat.lt_irrefl i), Bool.and_false]
  rw [this]
  rfl
theorem bars_left {ps : List (Str × Str)} {row left : List Str} {x : Str} {i : Nat} (hd : row.Nodup) (r : Red ps [] row left) (nf : Nf ps [] left) (hx : x ∈ left) (hi : row[i]? = some x) : ∃ z j, z ∈ left ∧ row[j]? = some z ∧ wordsOf ps row x z i j ≠ [] := by
  have ndl := r.nodup hd
  obtain ⟨a, b, e⟩ := List.append_of_mem hx
  have nl : ¬ LooseP ps a b x := fun z => by
    have := nf x ⟨a, b, e, z⟩
    cases this
  have place : ∀ z ∈ left, ∃ j, row[j]? = some z := fun z hz => List.mem_iff_getElem?.mp (r.sub z hz)
  have behind : ∀ z ∈ b, Ahead left x z := fun z hz => by
    obtain ⟨b1, b2, eb⟩ := List.append_of_mem hz
    exact ⟨a ++ x :: b1, b2, by rw [e, eb]; simp, by simp⟩
  by_cases c : ∃ y ∈ b, frd ps x y = true
  · obtain ⟨y, hy, f⟩ := c
    have my : y ∈ left := by rw [e]; simp [hy]
    obtain ⟨j, hj⟩ := place y my
    exact ⟨y, j, my, hj, words_friend ((r.ahead hd (behind y hy)).lt hd hi hj) f⟩
  · have nb : ∀ y ∈ b, frd ps x y = false := fun y hy => by
      cases f : frd ps x y with
      | false => rfl
      | true => exact absurd ⟨y, hy, f⟩ c
    have ahd : ∀ y ∈ a, Ahead left y x := fun y hy => ⟨a, b, e, hy⟩
    cases hk : lastP (frd ps x) (row.take i) with
    | none =>
      have na := lastP_no.mp hk
      have nfa : ∀ y ∈ a, frd ps x y = false := fun y hy => by
        obtain ⟨j, hj⟩ := place y (ahd y hy).mem.1
        have lt := (r.ahead hd (ahd y hy)).lt hd hj hi
        refine na y (List.mem_iff_getElem?.mpr ⟨j, ?_⟩)
        rw [List.getElem?_take, if_pos lt]
        exact hj
      cases b with
      | nil => exact absurd ⟨nb, .inr ⟨nfa, rfl⟩⟩ nl
      | cons z b' =>
        have mz : z ∈ left := by rw [e]; simp
        obtain ⟨j, hj⟩ := place z mz
        exact ⟨z, j, mz, hj, words_behind ((r.ahead hd (behind z (List.mem_cons_self ..))).lt hd hi hj) hk⟩
    | some k =>
      obtain ⟨h, h1, h2, h3⟩ := lastP_some hk
      have hki : k < i := by
        have := lastP_lt hk
        rw [List.length_take] at this
        omega
      rw [List.getElem?_take, if_pos hki] at h1
      have ahr : Ahead row h x := by
        have sp := split_at hi
        refine ⟨row.take i, row.drop (i + 1), sp, List.mem_iff_getElem?.mpr ⟨k, ?_⟩⟩
        rw [List.getElem?_take, if_pos hki]
        exact h1
      obtain ⟨a', b', e', m⟩ := r.keeps hd hx ahr h2
      have u := split_uniq ndl e' e
      rw [u.1] at m
      obtain ⟨a1, a2, ea⟩ := List.append_of_mem m
      cases a2 with
      | nil => exact absurd ⟨nb, .inl ⟨a1, h, ea, h2⟩⟩ nl
      | cons z a3 =>
        have mz : z ∈ left := by rw [e, ea]; simp
        obtain ⟨j, hj⟩ := place z mz
        have k1 : Ahead left h z := ⟨a1 ++ [h], a3 ++ x :: b, by rw [e, ea]; simp, by simp⟩
        have k2 : Ahead left z x := ahd z (by rw [ea]; simp)
        exact ⟨z, j, mz, hj, words_between hk ((r.ahead hd k1).lt hd h1 hj) ((r.ahead hd k2).lt hd hj hi)⟩
theorem nd_len : ∀ (l m : List Str), l.Nodup → (∀ x ∈ l, x ∈ m) → l.length ≤ m.length
  | [], _, _, _ => Nat.zero_le _
  | x :: l, m, h, s => by
    obtain ⟨n1, n2⟩ := List.nodup_cons.mp h
    obtain ⟨a, b, e⟩ := List.append_of_mem (s x (List.mem_cons_self ..))
    have ih := nd_len l (a ++ b) n2 fun y hy => by
      have ne : y ≠ x := fun z => n1 (z ▸ hy)
      have := s y (List.mem_cons_of_mem _ hy)
      rw [e] at this
      rcases List.mem_append.mp this with z | z
      · exact List.mem_append_left _ z
      · rcases List.mem_cons.mp z with z | z
        · exact absurd z ne
        · exact List.mem_append_right _ z
    rw [List.length_append] at ih
    rw [e, List.length_append, List.length_cons, List.length_cons]
    omega
/-! ### rings -/
def wordsAt (ps : List (Str × Str)) (row : List Str) (a b : Str) : List Str := wordsOf ps row a b (row.idxOf a) (row.idxOf b)
def barredL (ps : List (Str × Str)) (row left : List Str) (who : Str) : List (Str × Str) := left.flatMap fun o => (wordsAt ps row who o).map fun w => (o, w)
def nextB (ps : List (Str × Str)) (row left : List Str) (who : Str) : Str × Str := (barredL ps row left who).headD (who, "")
def ringN (ps : List (Str × Str)) (row left : List Str) : Nat → List (Str × Str) → Str → List (Str × Str)
  | 0, path, _ => path
  | n + 1, path, who => if who ∈ path.map (·.1) then path.drop ((path.map (·.1)).idxOf who) else ringN ps row left n (path ++ [(who, (nextB ps row left who).2)]) (nextB ps row left who).1
def ringOf (ps : List (Str × Str)) (row left : List Str) : List (Str × Str) := ringN ps row left (left.length + 1) [] (left.headD "")
theorem barred_mem {ps : List (Str × Str)} {row left : List Str} {who : Str} {q : Str × Str} : q ∈ barredL ps row left who ↔ q.1 ∈ left ∧ q.2 ∈ wordsAt ps row who q.1 := by
  unfold barredL
  rw [List.mem_flatMap]
  constructor
  · rintro ⟨o, ho, m⟩
    obtain ⟨w, hw, rfl⟩ := List.mem_map.mp m
    exact ⟨ho, hw⟩
  · rintro ⟨h1, h2⟩
    exact ⟨q.1, h1, List.mem_map.mpr ⟨q.2, h2, rfl⟩⟩
theorem barred_ne {ps : List (Str × Str)} {row left : List Str} {x : Str} (hd : row.Nodup) (r : Red ps [] row left) (nf : Nf ps [] left) (hx : x ∈ left) : barredL ps row left x ≠ [] := fun e => by
  obtain ⟨i, hi⟩ := List.mem_iff_getElem?.mp (r.sub x hx)
  obtain ⟨z, j, mz, hj, hw⟩ := bars_left hd r nf hx hi
  obtain ⟨w, hw⟩ := List.exists_mem_of_ne_nil _ hw
  have m : (z, w) ∈ barredL ps row left x := barred_mem.mpr ⟨mz, by
    show w ∈ wordsOf ps row x z (row.idxOf x) (row.idxOf z)
    rw [idx_at hd hi, idx_at hd hj]
    exact hw⟩
  rw [e] at m
  cases m
theorem next_mem {ps : List (Str × Str)} {row left : List Str} {x : Str} (h : barredL ps row left x ≠ []) : nextB ps row left x ∈ barredL ps row left x := by
  unfold nextB
  cases e : barredL ps row left x with
  | nil => exact absurd e h
  | cons q l => exact List.mem_cons_self ..
structure RingOk (ps : List (Str × Str)) (row left : List Str) (ring : List (Str × Str)) : Prop where
  two : 2 ≤ ring.length
  nd : (ring.map (·.1)).Nodup
  sub : ∀ x ∈ ring.map (·.1), x ∈ left
  bar : ∀ (i : Nat) (x w y : Str), ring[i]? = some (x, w) → ((ring.map (·.1)).drop 1 ++ (ring.map (·.1)).take 1)[i]? = some y → w ∈ wordsAt ps row x y
theorem ring_ok {ps : List (Str × Str)} {row left : List Str} (hd : row.Nodup) (r : Red ps [] row left) (nf : Nf ps [] left) : ∀ (m : Nat) (path : List (Str × Str)) (who : Str), m + path.length = left.length + 1 → (path.map (·.1)).Nodup → (∀ x ∈ path.map (·.1), x ∈ left) → who ∈ left →
    (∀ (i : Nat) (x w : Str), path[i]? = some (x, w) → ∃ y, (path.map (·.1) ++ [who])[i + 1]? = some y ∧ w ∈ wordsAt ps row x y) → RingOk ps row left (ringN ps row left m path who)
  | 0, path, who, hm, hn, hs, hw, hc => by
    have := nd_len _ _ hn hs
    rw [List.length_map] at this
    omega
  | m + 1, path, who, hm, hn, hs, hw, hc => by
    unfold ringN
    by_cases c : who ∈ path.map (·.1)
    · rw [if_pos c]
      have hk : (path.map (·.1)).idxOf who < (path.map (·.1)).length := List.idxOf_lt_length_iff.mpr c
      have ek : (path.map (·.1))[(path.map (·.1)).idxOf who]? = some who := by rw [List.getElem?_eq_getElem hk, List.getElem_idxOf]
      generalize (path.map (·.1)).idxOf who = k at hk ek
      rw [List.length_map] at hk
      have bar : ∀ (i : Nat) (x w y : Str), (path.drop k)[i]? = some (x, w) → (((path.drop k).map (·.1)).drop 1 ++ ((path.drop k).map (·.1)).take 1)[i]? = some y → w ∈ wordsAt ps row x y := by
        intro i x w y h1 h2
        rw [List.getElem?_drop] at h1
        obtain ⟨y', h3, h4⟩ := hc _ x w h1
        have et : ((path.drop k).map (·.1)).take 1 = [who] := by
          rw [List.map_drop]
          have hne : (path.map (·.1)).drop k = who :: (path.map (·.1)).drop (k + 1) := by
            rw [List.getElem?_eq_some_iff] at ek
            obtain ⟨q1, q2⟩ := ek
            rw [List.drop_eq_getElem_cons q1, q2]
          rw [hne]
          rfl
        have ed : (path.map (·.1) ++ [who])[k + i + 1]? = (((path.drop k).map (·.1)).drop 1 ++ ((path.drop k).map (·.1)).take 1)[i]? := by
          rw [et, List.map_drop, List.drop_drop, ← List.drop_append_of_le_length (l₂ := [who]) (by rw [List.length_map]; omega), List.getElem?_drop]
          congr 1
          omega
        rw [ed, h2] at h3
        cases h3
        exact h4
      have nd' : ((path.drop k).map (·.1)).Nodup := by
        rw [List.map_drop]
        exact hn.sublist (List.drop_sublist _ _)
      refine ⟨?_, nd', fun x hx => hs x ?_, bar⟩
      · rw [List.length_drop]
        refine Classical.byContradiction fun z => ?_
        have e1 : k + 1 = path.length := by omega
        obtain ⟨⟨x, w⟩, hx⟩ : ∃ q, path[k]? = some q := ⟨path[k]'hk, List.getElem?_eq_getElem hk⟩
        have ex : x = who := by
          rw [List.getElem?_map, hx] at ek
          exact Option.some.inj ek
        have ed : (path.drop k) = [(x, w)] := by
          have q := (List.getElem?_eq_some_iff.mp hx)
          rw [List.drop_eq_getElem_cons hk, q.2, List.drop_eq_nil_of_le (by omega)]
        have := bar 0 x w x (by rw [ed]; rfl) (by rw [ed]; rfl)
        have hxr : row.idxOf x ≤ row.length := List.idxOf_le_length
        unfold wordsAt at this
        rw [words_self hxr] at this
        cases this
      · rw [List.map_drop] at hx
        exact List.mem_of_mem_drop hx
    · rw [if_neg c]
      have nx := barred_mem.mp (next_mem (barred_ne hd r nf hw))
      refine ring_ok hd r nf m _ _ ?_ ?_ ?_ nx.1 ?_
      · rw [List.length_append]
        show m + (path.length + 1) = _
        omega
      · rw [List.map_append]
        refine List.nodup_append.mpr ⟨hn, by simp, ?_⟩
        intro x hx y hy
        have ey : y = who := by simpa using hy
        rw [ey]
        exact fun z => c (z ▸ hx)
      · intro x hx
        rw [List.map_append] at hx
        rcases List.mem_append.mp hx with z | z
        · exact hs x z
        · have : x = who := by simpa using z
          rw [this]
          exact hw
      · intro i x w h
        rw [List.map_append]
        show ∃ y, (path.map (·.1) ++ [who] ++ [(nextB ps row left who).1])[i + 1]? = some y ∧ _
        by_cases hi : i < path.length
        · rw [List.getElem?_append_left hi] at h
          obtain ⟨y, h1, h2⟩ := hc i x w h
          refine ⟨y, ?_, h2⟩
          rw [List.getElem?_append_left (by rw [List.length_append, List.length_map]; show i + 1 < path.length + 1; omega)]
          exact h1
        · have li : i < (path ++ [(who, (nextB ps row left who).2)]).length := (List.getElem?_eq_some_iff.mp h).1
          rw [List.length_append] at li
          have ei : i = path.length := by
            have : i < path.length + 1 := li
            omega
          subst ei
          have : (path ++ [(who, (nextB ps row left who).2)])[path.length]? = some (who, (nextB ps row left who).2) := by simp
          rw [this] at h
          cases h
          refine ⟨(nextB ps row left who).1, ?_, nx.2⟩
          have le : (path.map (·.1) ++ [who]).length = path.length + 1 := by rw [List.length_append, List.length_map]; rfl
          rw [← le]
          simp
theorem ringOf_ok {ps : List (Str × Str)} {row left : List Str} (hd : row.Nodup) (r : Red ps [] row left) (nf : Nf ps [] left) (ne : left ≠ []) : RingOk ps row left (ringOf ps row left) := by
  refine ring_ok hd r nf _ [] _ rfl List.nodup_nil (fun _ h => nomatch h) ?_ (fun i x w h => by simp at h)
  cases left with
  | nil => exact absurd rfl ne
  | cons a l => exact List.mem_cons_self ..
theorem ring_len {ps : List (Str × Str)} {row left : List Str} (h : RingOk ps row left ring) : ring.length ≤ left.length := by
  have := nd_len _ _ h.nd h.sub
  rw [List.length_map] at this
  exact this
/-! ### walks within walks -/
theorem lc1_it {J : It} {n : Nat} {G : Hp → Prop} {Y : Nat → Hp → V → Hp → Prop} (w : Walk J n G Y) {g : TG} {tt : TT} {te : TE} {vs : List Nat} {σ : L2.St} {H1 : Hp} {D : Addr} {Qd : Hp → Prop} (Pv : Nat → Hp → Prop) (h0 : Pv 0 H1) (hG : ∀ i H, i ≤ n → Pv i H → G H)
    (hs : ∀ i x H H', i < n → Pv i H → Y i H x H' → g x (wipe σ vs) H' fun σ2 H2 => wipe σ2 vs = wipe σ vs ∧ tt σ2 H2 fun b H3 =>
      if b = true then te σ2 H3 fun y H4 => ∃ acc, H4 D = some (.lst acc) ∧ acc.length < sizeLine ∧ Pv (i + 1) (upd H4 D (.lst (acc ++ [y]))) else Pv (i + 1) H3) (hd : ∀ H, Pv n H → Qd H) :
    ∃ W : Nat → Nat → Hp → Prop, (∃ m, W 0 m H1) ∧ ∀ i m H, W i m H →
      (J.stop i H ∧ Qd H) ∨ (J.go i H ∧ ∃ Nx : Hp → Prop, (∀ H', Nx H' → ∃ m', m' < m ∧ W (i + 1) m' H') ∧ ∀ x H', J.yld i H x H' → g x (wipe σ vs) H' fun σ2 H2 => wipe σ2 vs = wipe σ vs ∧ tt σ2 H2 fun b H3 =>
        if b = true then te σ2 H3 fun y H4 => ∃ acc, H4 D = some (.lst acc) ∧ acc.length < sizeLine ∧ Nx (upd H4 D (.lst (acc ++ [y]))) else Nx H3) := by
  refine ⟨fun i m H => m = n - i ∧ i ≤ n ∧ Pv i H, ⟨n, by simp, Nat.zero_le _, h0⟩, fun i m H hW => ?_⟩
  obtain ⟨rfl, hi, p⟩ := hW
  have q := hG i H hi p
  by_cases hlt : i < n
  · exact .inr ⟨w.goes i H hlt q, Pv (i + 1), fun H' p' => ⟨n - (i + 1), by omega, rfl, hlt, p'⟩, fun x H' y => hs i x H H' hlt p (w.yields i H x H' hlt q y)⟩
  · have e : i = n := by omega
    subst e
    exact .inl ⟨w.stops H q, hd H p⟩
theorem lc2_it {J : It} {n : Nat} {G : Hp → Prop} {Y : Nat → Hp → V → Hp → Prop} (w : Walk J n G Y) {g : TG} {tt : TT} {wi1 : TI} {g1 : TG} {tt1 : TT} {te : TE} {vs vs1 : List Nat} {σ : L2.St} {H1 : Hp} {D : Addr} {Qd : Hp → Prop} (Pv : Nat → Hp → Prop) (h0 : Pv 0 (upd H1 D (.lst []))) (hG : ∀ i H, i ≤ n → Pv i H → G H)
    (hs : ∀ i x H H', i < n → Pv i H → Y i H x H' → g x (wipe σ vs) H' fun σ2 H2 => wipe σ2 vs = wipe σ vs ∧ tt σ2 H2 fun b H3 =>
      if b = true then wi1 σ2 H3 fun J1 H4 => ∃ W1 : Nat → Nat → Hp → Prop, (∃ m, W1 0 m H4) ∧ ∀ j k H, W1 j k H →
        (J1.stop j H ∧ Pv (i + 1) H) ∨ (J1.go j H ∧ ∃ Nx1 : Hp → Prop, (∀ H', Nx1 H' → ∃ k', k' < k ∧ W1 (j + 1) k' H') ∧ ∀ x H', J1.yld j H x H' → g1 x (wipe σ2 vs1) H' fun σ3 H5 => wipe σ3 vs1 = wipe σ2 vs1 ∧ tt1 σ3 H5 fun b H6 =>
          if b = true then te σ3 H6 fun y H7 => ∃ acc, H7 D = some (.lst acc) ∧ acc.length < sizeLine ∧ Nx1 (upd H7 D (.lst (acc ++ [y]))) else Nx1 H6)
      else Pv (i + 1) H3) (hd : ∀ H, Pv n H → Qd H) :
    ∃ W : Nat → Nat → Hp → Prop, (∃ m, W 0 m (upd H1 D (.lst []))) ∧ ∀ i m H, W i m H →
      (J.stop i H ∧ Qd H) ∨ (J.go i H ∧ ∃ Nx : Hp → Prop, (∀ H', Nx H' → ∃ m', m' < m ∧ W (i + 1) m' H') ∧ ∀ x H', J.yld i H x H' → g x (wipe σ vs) H' fun σ2 H2 => wipe σ2 vs = wipe σ vs ∧ tt σ2 H2 fun b H3 =>
        if b = true then wi1 σ2 H3 fun J1 H4 => ∃ W1 : Nat → Nat → Hp → Prop, (∃ m, W1 0 m H4) ∧ ∀ j k H, W1 j k H →
          (J1.stop j H ∧ Nx H) ∨ (J1.go j H ∧ ∃ Nx1 : Hp → Prop, (∀ H', Nx1 H' → ∃ k', k' < k ∧ W1 (j + 1) k' H') ∧ ∀ x H', J1.yld j H x H' → g1 x (wipe σ2 vs1) H' fun σ3 H5 => wipe σ3 vs1 = wipe σ2 vs1 ∧ tt1 σ3 H5 fun b H6 =>
            if b = true then te σ3 H6 fun y H7 => ∃ acc, H7 D = some (.lst acc) ∧ acc.length < sizeLine ∧ Nx1 (upd H7 D (.lst (acc ++ [y]))) else Nx1 H6)
        else Nx H3) := by
  refine ⟨fun i m H => m = n - i ∧ i ≤ n ∧ Pv i H, ⟨n, by simp, Nat.zero_le _, h0⟩, fun i m H hW => ?_⟩
  obtain ⟨rfl, hi, p⟩ := hW
  have q := hG i H hi p
  by_cases hlt : i < n
  · exact .inr ⟨w.goes i H hlt q, Pv (i + 1), fun H' p' => ⟨n - (i + 1), by omega, rfl, hlt, p'⟩, fun x H' y => hs i x H H' hlt p (w.yields i H x H' hlt q y)⟩
  · have e : i = n := by omega
    subst e
    exact .inl ⟨w.stops H q, hd H p⟩
/-! ### promises -/
def barredTo (ps : List (Str × Str)) (row left : List Str) (who : Str) (n : Nat) : List (Str × Str) := (left.take n).flatMap fun o => (wordsAt ps row who o).map fun w => (o, w)
theorem barredTo_step {ps : List (Str × Str)} {row left : List Str} {who : Str} {i : Nat} {o : Str} (h : left[i]? = some o) : barredTo ps row left who (i + 1) = barredTo ps row left who i ++ (wordsAt ps row who o).map fun w => (o, w) := by
  unfold barredTo
  rw [List.take_add_one, h, List.flatMap_append]
  congr 1
  simp
theorem barredTo_all (ps : List (Str × Str)) (row left : List Str) (who : Str) : barredTo ps row left who left.length = barredL ps row left who := by
  unfold barredTo barredL
  rw [List.take_of_length_le (Nat.le_refl _)]
def spNextB : Sp := fun vs H Q _ => ∃ (d r lf : Addr) (ps : List (Str × Str)) (row left : List Str) (who : Str), vs = [.ref d, .ref r, .str who, .ref lf] ∧ KnAt H d ps ∧ RowAt H r row ∧ row.length ≤ 100 ∧ row.Nodup ∧ TupAt H lf (left.map V.str) ∧ left.length ≤ 100 ∧ (∀ x ∈ left, x ∈ row) ∧ who ∈ row ∧ barredL ps row left who ≠ [] ∧
  ∀ t H', Same H H' → H' t = some (.tup [.str (nextB ps row left who).1, .str (nextB ps row left who).2]) → Q (.ref t) H'
def spRingA : Sp := fun vs H Q _ => ∃ (a r lf : Addr) (ps : List (Str × Str)) (row left : List Str), vs = [.ref a, .ref r, .ref lf] ∧ FrAt H a ps ∧ ps.length ≤ 1000 ∧ RowAt H r row ∧ row.length ≤ 100 ∧ row.Nodup ∧ TupAt H lf (left.map V.str) ∧ left.Nodup ∧ left ≠ [] ∧ (∀ x ∈ left, x ∈ row) ∧ (∀ x ∈ left, barredL ps row left x ≠ []) ∧
  ∀ (p : Addr) (bs : List B3) (H' : Hp), Same H H' → H p = none → H' p = some (.lst (refs bs)) → PairsAt H' bs → bs.map (·.2) = ringOf ps row left → Q (.ref p) H'
/-- what order_of tells: p the list in it -/
def OrdAt (H : Hp) (p : Addr) (word : Str) (ps : List (Str × Str)) (row : List Str) : Prop :=
  (goneR ps [] row = [] ∧ word = "order" ∧ H p = some (.lst ((goneO ps [] row).reverse.map V.str))) ∨ (goneR ps [] row ≠ [] ∧ word = "ring" ∧ ∃ bs : List B3, H p = some (.lst (refs bs)) ∧ PairsAt H bs ∧ bs.map (·.2) = ringOf ps row (goneR ps [] row))
theorem OrdAt.same {H H' : Hp} {p : Addr} {word : Str} {ps : List (Str × Str)} {row : List Str} (s : Same H H') (h : OrdAt H p word ps row) : OrdAt H' p word ps row :=
  h.elim (fun ⟨h1, h2, h3⟩ => .inl ⟨h1, h2, s _ _ h3⟩) (fun ⟨h1, h2, bs, h3, h4, h5⟩ => .inr ⟨h1, h2, bs, s _ _ h3, h4.same s, h5⟩)
def spOrderOf : Sp := fun vs H Q _ => ∃ (a r : Addr) (ps : List (Str × Str)) (row : List Str), vs = [.ref a, .ref r] ∧ FrAt H a ps ∧ ps.length ≤ 1000 ∧ Irr ps ∧ RowAt H r row ∧ row.Nodup ∧ row.length ≤ 100 ∧
  ∀ (T p : Addr) (word : Str) (H' : Hp), Same H H' → H p = none → H' T = some (.tup [.str word, .ref p]) → OrdAt H' p word ps row → Q (.ref T) H'
end Lk
set_option maxRecDepth 100000
set_option maxHeartbeats 4000000
namespace Lk
open PySem PySem.Spec PyProof.Rows L2
/-! ### len(set(xs)), xs a list of texts, none of them twice -/
section
variable {P : Program} {w : World} {A : Around} {E : Value → Shared → Prop} {s : Shared}
abbrev setOb (led : Bool) : Obj := { cls := .type "set", dict := none, data := .set #[] 0 (.fresh 0 0 led) }
end
section
variable {X : Cx}
end
end Lk
set_option maxRecDepth 100000
set_option maxHeartbeats 4000000
namespace Lk
open PySem PySem.Spec PyProof.Rows L2

/-! ### who stands ahead of whom, by places -/
theorem ix_at {row : List Str} {x : Str} (hx : x ∈ row) : row[row.idxOf x]? = some x := by
  have hl : row.idxOf x < row.length := List.idxOf_lt_length_iff.mpr hx
  rw [List.getElem?_eq_getElem hl, List.getElem_idxOf]
theorem ahead_ix {row : List Str} {x y : Str} (hd : row.Nodup) : Ahead row x y ↔ x ∈ row ∧ y ∈ row ∧ row.idxOf x < row.idxOf y := by
  constructor
  · intro k
    exact ⟨k.mem.1, k.mem.2, k.lt hd (ix_at k.mem.1) (ix_at k.mem.2)⟩
  · rintro ⟨hx, hy, h⟩
    refine ⟨row.take (row.idxOf y), row.drop (row.idxOf y + 1), split_at (ix_at hy), ?_⟩
    exact List.mem_iff_getElem?.mpr ⟨row.idxOf x, by rw [List.getElem?_take, if_pos h]; exact ix_at hx⟩
theorem mem_take_ix {row : List Str} {x : Str} {i : Nat} (hd : row.Nodup) : x ∈ row.take i ↔ x ∈ row ∧ row.idxOf x < i := by
  constructor
  · intro h
    obtain ⟨j, hj⟩ := List.mem_iff_getElem?.mp h
    rw [List.getElem?_take] at hj
    split at hj
    · rename_i c
      rw [idx_at hd hj]
      exact ⟨List.mem_of_getElem? hj, c⟩
    · cases hj
  · rintro ⟨h1, h2⟩
    exact List.mem_iff_getElem?.mpr ⟨row.idxOf x, by rw [List.getElem?_take, if_pos h2]; exact ix_at h1⟩
theorem rem_ix {row : List Str} {x u v : Str} (hd : row.Nodup) (hu : u ∈ row) (hv : v ∈ row) (nu : u ≠ x) (nv : v ≠ x) : (rem row x).idxOf u < (rem row x).idxOf v ↔ row.idxOf u < row.idxOf v := by
  have mu := mem_rem.mpr ⟨hu, nu⟩
  have mv := mem_rem.mpr ⟨hv, nv⟩
  constructor
  · intro h
    exact ((ahead_ix hd).mp (((ahead_ix (rem_nodup hd)).mpr ⟨mu, mv, h⟩).of_rem hd)).2.2
  · intro h
    exact ((ahead_ix (rem_nodup hd)).mp (((ahead_ix hd).mpr ⟨hu, hv, h⟩).rem nu nv)).2.2

/-! ### by which word one bars another -/
def BarsBy (ps : List (Str × Str)) (row : List Str) (a b w : Str) : Prop :=
  (w = "behind" ∧ (∀ h ∈ row, row.idxOf h < row.idxOf a → frd ps a h = false) ∧ row.idxOf a < row.idxOf b) ∨
  (w = "between" ∧ (∃ h ∈ row, frd ps a h = true ∧ row.idxOf h < row.idxOf a ∧ (∀ g ∈ row, row.idxOf g < row.idxOf a → frd ps a g = true → row.idxOf g ≤ row.idxOf h) ∧ row.idxOf h < row.idxOf b) ∧ row.idxOf b < row.idxOf a) ∨
  (w = "friend" ∧ row.idxOf a < row.idxOf b ∧ frd ps a b = true)
def Bars (ps : List (Str × Str)) (row : List Str) (a b : Str) : Prop := ∃ w, BarsBy ps row a b w
/-- who can have come last, by places -/
theorem loose_ix {ps : List (Str × Str)} {row : List Str} {x : Str} (hd : row.Nodup) : LooseIn ps row x ↔ x ∈ row ∧ (∀ y ∈ row, row.idxOf x < row.idxOf y → frd ps x y = false) ∧ ((∃ f ∈ row, row.idxOf f + 1 = row.idxOf x ∧ frd ps x f = true) ∨ ((∀ y ∈ row, row.idxOf y < row.idxOf x → frd ps x y = false) ∧ ∀ y ∈ row, ¬ row.idxOf x < row.idxOf y)) := by
  have parts : ∀ {a b : List Str}, row = a ++ x :: b → row.idxOf x = a.length ∧ (∀ y, y ∈ a ↔ y ∈ row ∧ row.idxOf y < row.idxOf x) ∧ (∀ y, y ∈ b ↔ y ∈ row ∧ row.idxOf x < row.idxOf y) := by
    intro a b e
    have ex : row.idxOf x = a.length := idx_at hd (by rw [e]; simp)
    have ta : row.take (row.idxOf x) = a := by rw [ex, e]; simp
    refine ⟨ex, fun y => ?_, fun y => ?_⟩
    · rw [← ta, mem_take_ix hd]
    · constructor
      · intro hy
        obtain ⟨j, hj⟩ := List.mem_iff_getElem?.mp hy
        have g : row[a.length + 1 + j]? = some y := by
          rw [e, List.getElem?_append_right (by omega), show a.length + 1 + j - a.length = j + 1 by omega, List.getElem?_cons_succ]
          exact hj
        refine ⟨List.mem_of_getElem? g, ?_⟩
        rw [idx_at hd g]
        omega
      · rintro ⟨hy, h⟩
        have hm : y ∈ a ++ x :: b := e ▸ hy
        rcases List.mem_append.mp hm with m | m
        · have := ((mem_take_ix hd).mp (ta.symm ▸ m : y ∈ row.take (row.idxOf x))).2
          omega
        · rcases List.mem_cons.mp m with z | z
          · subst z
            omega
          · exact z
  constructor
  · rintro ⟨a, b, e, q1, q2⟩
    obtain ⟨ex, ha, hb⟩ := parts e
    refine ⟨by rw [e]; simp, fun y hy h => q1 y ((hb y).mpr ⟨hy, h⟩), ?_⟩
    rcases q2 with ⟨a', f, ea, hf⟩ | ⟨h1, h2⟩
    · refine .inl ⟨f, ((ha f).mp (by rw [ea]; simp)).1, ?_, hf⟩
      have : row.idxOf f = a'.length := idx_at hd (by rw [e, ea]; simp)
      rw [this, ex, ea]
      simp
    · refine .inr ⟨fun y hy h => h1 y ((ha y).mpr ⟨hy, h⟩), fun y hy h => ?_⟩
      have := (hb y).mpr ⟨hy, h⟩
      rw [h2] at this
      cases this
  · rintro ⟨hx, q1, q2⟩
    obtain ⟨a, b, e⟩ := List.append_of_mem hx
    obtain ⟨ex, ha, hb⟩ := parts e
    refine ⟨a, b, e, fun y hy => q1 y ((hb y).mp hy).1 ((hb y).mp hy).2, ?_⟩
    rcases q2 with ⟨f, hf, h1, h2⟩ | ⟨h1, h2⟩
    · refine .inl ?_
      have hfa : f ∈ a := (ha f).mpr ⟨hf, by omega⟩
      have hne : a ≠ [] := fun z => by rw [z] at hfa; cases hfa
      refine ⟨a.dropLast, a.getLast hne, (List.dropLast_concat_getLast hne).symm, ?_⟩
      have ge : row[a.length - 1]? = some (a.getLast hne) := by
        have lp : 0 < a.length := List.length_pos_iff.mpr hne
        rw [e, List.getElem?_append_left (by omega), ← List.getLast?_eq_getElem?, List.getLast?_eq_some_getLast hne]
      have gf := ix_at hf
      rw [show row.idxOf f = a.length - 1 by omega, ge] at gf
      rw [Option.some.inj gf]
      exact h2
    · refine .inr ⟨fun y hy => h1 y ((ha y).mp hy).1 ((ha y).mp hy).2, ?_⟩
      cases b with
      | nil => rfl
      | cons y b => exact absurd ((hb y).mp List.mem_cons_self).2 (h2 y ((hb y).mp List.mem_cons_self).1)
theorem loose_bars {ps : List (Str × Str)} {row : List Str} {x : Str} (hd : row.Nodup) (hx : x ∈ row) : LooseIn ps row x ↔ ∀ b ∈ row, ¬ Bars ps row x b := by
  rw [loose_ix hd]
  constructor
  · rintro ⟨_, q1, q2⟩ b hb ⟨w, h⟩
    rcases h with ⟨_, h1, h2⟩ | ⟨_, ⟨h, h1, h2, h3, h4, h5⟩, h6⟩ | ⟨_, h1, h2⟩
    · rcases q2 with ⟨f, hf, e, hf2⟩ | ⟨_, h3⟩
      · rw [h1 f hf (by omega)] at hf2
        cases hf2
      · exact h3 b hb h2
    · rcases q2 with ⟨f, hf, e, hf2⟩ | ⟨h7, _⟩
      · have := h4 f hf (by omega) hf2
        omega
      · rw [h7 h h1 h3] at h2
        cases h2
    · rw [q1 b hb h1] at h2
      cases h2
  · intro q
    have fr : ∀ y ∈ row, row.idxOf x < row.idxOf y → frd ps x y = false := fun y hy h => by
      refine Bool.eq_false_iff.mpr fun c => ?_
      exact q y hy ⟨"friend", .inr (.inr ⟨rfl, h, c⟩)⟩
    refine ⟨hx, fr, ?_⟩
    by_cases c : ∃ h ∈ row, frd ps x h = true ∧ row.idxOf h < row.idxOf x
    · refine .inl ?_
      -- the last one of these
      have : ∀ n, ∀ h ∈ row, frd ps x h = true → row.idxOf h < row.idxOf x → row.idxOf x - row.idxOf h ≤ n → ∃ f ∈ row, row.idxOf f + 1 = row.idxOf x ∧ frd ps x f = true := by
        intro n
        induction n with
        | zero => intro h _ _ h3 h4; omega
        | succ n ih =>
          intro h h1 h2 h3 h4
          by_cases c2 : ∃ g ∈ row, row.idxOf g < row.idxOf x ∧ frd ps x g = true ∧ row.idxOf h < row.idxOf g
          · obtain ⟨g, g1, g2, g3, g4⟩ := c2
            exact ih g g1 g3 g2 (by omega)
          · refine ⟨h, h1, ?_, h2⟩
            refine Classical.byContradiction fun c3 => ?_
            have hl : row.idxOf h + 1 < row.length := Nat.lt_trans (by omega : row.idxOf h + 1 < row.idxOf x) (List.idxOf_lt_length_iff.mpr hx)
            have gz := List.getElem?_eq_getElem hl
            have iz := idx_at hd gz
            refine q _ (List.mem_of_getElem? gz) ⟨"between", .inr (.inl ⟨rfl, ⟨h, h1, h2, h3, fun g g1 g2 g3 => ?_, by omega⟩, by omega⟩)⟩
            exact Nat.not_lt.mp fun g4 => c2 ⟨g, g1, g2, g3, g4⟩
      obtain ⟨h, h1, h2, h3⟩ := c
      exact this _ h h1 h2 h3 (Nat.le_refl _)
    · have no : ∀ y ∈ row, row.idxOf y < row.idxOf x → frd ps x y = false := fun y hy h => Bool.eq_false_iff.mpr fun z => c ⟨y, hy, z, h⟩
      exact .inr ⟨no, fun y hy h => q y hy ⟨"behind", .inl ⟨rfl, no, h⟩⟩⟩
/-- of the others it changes nothing whether one who can have come last is there -/
theorem barsby_rem {ps : List (Str × Str)} {row : List Str} {x u v w : Str} (hd : row.Nodup) (lx : LooseIn ps row x) (hu : u ∈ row) (hv : v ∈ row) (nu : u ≠ x) (nv : v ≠ x) : BarsBy ps (rem row x) u v w ↔ BarsBy ps row u v w := by
  obtain ⟨hx, q1, _⟩ := (loose_ix hd).mp lx
  have nf : row.idxOf x < row.idxOf u → frd ps u x = false := fun h => by rw [frd_comm]; exact q1 u hu h
  have ii : ∀ {y z : Str}, y ∈ row → z ∈ row → y ≠ x → z ≠ x → ((rem row x).idxOf y < (rem row x).idxOf z ↔ row.idxOf y < row.idxOf z) := fun h1 h2 h3 h4 => rem_ix hd h1 h2 h3 h4
  unfold BarsBy
  refine or_congr (and_congr Iff.rfl (and_congr ?_ (ii hu hv nu nv))) (or_congr (and_congr Iff.rfl (and_congr ?_ (ii hv hu nv nu))) (and_congr Iff.rfl (and_congr (ii hu hv nu nv) Iff.rfl)))
  · constructor
    · intro h y hy hl
      by_cases c : y = x
      · rw [c] at hl ⊢
        exact nf hl
      · exact h y (mem_rem.mpr ⟨hy, c⟩) ((ii hy hu c nu).mpr hl)
    · intro h y hy hl
      have m := mem_rem.mp hy
      exact h y m.1 ((ii m.1 hu m.2 nu).mp hl)
  · constructor
    · rintro ⟨h, h1, h2, h3, h4, h5⟩
      have m := mem_rem.mp h1
      refine ⟨h, m.1, h2, (ii m.1 hu m.2 nu).mp h3, fun g g1 g2 g3 => ?_, (ii m.1 hv m.2 nv).mp h5⟩
      by_cases c : g = x
      · rw [c] at g2 g3
        rw [nf g2] at g3
        cases g3
      · have := h4 g (mem_rem.mpr ⟨g1, c⟩) ((ii g1 hu c nu).mpr g2) g3
        exact Nat.not_lt.mp fun z => absurd ((ii m.1 g1 m.2 c).mpr z) (by omega)
    · rintro ⟨h, h1, h2, h3, h4, h5⟩
      have nh : h ≠ x := fun z => by
        rw [z] at h2 h3
        rw [nf h3] at h2
        cases h2
      refine ⟨h, mem_rem.mpr ⟨h1, nh⟩, h2, (ii h1 hu nh nu).mpr h3, fun g g1 g2 g3 => ?_, (ii h1 hv nh nv).mpr h5⟩
      have m := mem_rem.mp g1
      have := h4 g m.1 ((ii m.1 hu m.2 nu).mp g2) g3
      exact Nat.not_lt.mp fun z => absurd ((ii h1 m.1 nh m.2).mp z) (by omega)
theorem idx_snoc {o : List Str} {x u : Str} (hu : u ∈ o) : (o ++ [x]).idxOf u = o.idxOf u := by
  rw [List.idxOf_append, if_pos hu]
theorem idx_snoc_last {o : List Str} {x : Str} (hx : x ∉ o) : (o ++ [x]).idxOf x = o.length := by
  rw [List.idxOf_append, if_neg hx]
  simp
/-- the orders are just the lists in which each stands ahead of all that it bars -/
theorem lin_iff {ps : List (Str × Str)} (irr : Irr ps) : ∀ (n : Nat) (order row : List Str), order.length = n → order.Nodup → order.Perm row → (standOf ps order = row ↔ ∀ u ∈ row, ∀ v ∈ row, Bars ps row u v → order.idxOf u < order.idxOf v)
  | 0, order, row, hn, hd, pm => by
    have e : order = [] := List.length_eq_zero_iff.mp hn
    subst e
    have e2 : row = [] := List.nil_perm.mp pm
    subst e2
    exact ⟨(fun _ u hu => nomatch hu), fun _ => rfl⟩
  | n + 1, order, row, hn, hd, pm => by
    rcases List.eq_nil_or_concat order with z | ⟨o, x, z⟩
    · rw [z] at hn
      cases hn
    rw [List.concat_eq_append] at z
    subst z
    have hdr : row.Nodup := pm.nodup_iff.mp hd
    have hd' : (x :: o).Nodup := ((List.perm_append_singleton x o).nodup_iff).mp hd
    obtain ⟨nx, hdo⟩ := List.nodup_cons.mp hd'
    have hx : x ∈ row := pm.mem_iff.mp (by simp)
    have on : o.length = n := by
      rw [List.length_append] at hn
      have : o.length + 1 = n + 1 := hn
      omega
    have pr : o.Perm (rem row x) := by
      have p1 : (x :: o).Perm row := (List.perm_append_singleton x o).symm.trans pm
      have p2 : (rem (x :: o) x).Perm (rem row x) := p1.filter _
      have e1 : rem (x :: o) x = o := rem_split (a := []) hd'
      rw [e1] at p2
      exact p2
    have mo : ∀ u ∈ row, u ≠ x → u ∈ o := fun u hu ne => pr.mem_iff.mpr (mem_rem.mpr ⟨hu, ne⟩)
    have ih := lin_iff irr n o (rem row x) on hdo pr
    rw [standOf_app]
    constructor
    · intro e u hu v hv bv
      have hs : (x :: standOf ps o).Nodup := ((stand_perm ps o).cons x).nodup_iff.mpr hd'
      have er := come_rem (ps := ps) hs
      have lx := come_loose ps (standOf ps o) x
      rw [e] at er lx
      have nu : u ≠ x := fun z => by
        subst z
        exact (loose_bars hdr hx).mp lx v hv bv
      have uo := mo u hu nu
      rw [idx_snoc uo]
      by_cases cv : v = x
      · subst cv
        rw [idx_snoc_last nx]
        exact List.idxOf_lt_length_iff.mpr uo
      · rw [idx_snoc (mo v hv cv)]
        obtain ⟨w, bw⟩ := bv
        exact ih.mp er.symm u (mem_rem.mpr ⟨hu, nu⟩) v (mem_rem.mpr ⟨hv, cv⟩) ⟨w, (barsby_rem hdr lx hu hv nu cv).mpr bw⟩
    · intro q
      have lx : LooseIn ps row x := (loose_bars hdr hx).mpr fun b hb bb => by
        have h := q x hx b hb bb
        rw [idx_snoc_last nx] at h
        have : (o ++ [x]).idxOf b < (o ++ [x]).length := List.idxOf_lt_length_iff.mpr (pm.mem_iff.mpr hb)
        rw [List.length_append] at this
        have : (o ++ [x]).idxOf b < o.length + 1 := this
        omega
      have es : standOf ps o = rem row x := ih.mpr fun u hu v hv ⟨w, bw⟩ => by
        have mu := mem_rem.mp hu
        have mv := mem_rem.mp hv
        have h := q u mu.1 v mv.1 ⟨w, (barsby_rem hdr lx mu.1 mv.1 mu.2 mv.2).mp bw⟩
        rw [idx_snoc (mo u mu.1 mu.2), idx_snoc (mo v mv.1 mv.2)] at h
        exact h
      rw [es]
      exact loose_come irr hdr lx
end Lk
set_option maxRecDepth 100000
set_option maxHeartbeats 4000000
namespace Lk
open PySem PySem.Spec PyProof.Rows L2

/-! ### rows, be they lists or tuples -/
theorem RowAt.sq {K : PySem.W.Frag} {H : Hp} {a : Addr} {row : List Str} (h : RowAt H a row) : SqL K H a (row.map V.str) ∨ SqT K H a (row.map V.str) := h.elim (fun e => .inr e.sq) (fun e => .inl (.inl (.inl e)))
theorem RowAt.at_ {H H' : Hp} {a : Addr} {row : List Str} (h : RowAt H a row) (e : H' a = H a) : RowAt H' a row := by
  rcases h with ⟨o, h1, h2⟩ | h
  · exact .inl ⟨o, h1, e.trans h2⟩
  · exact .inr (e.trans h)
theorem RowAt.some_ {H : Hp} {a : Addr} {row : List Str} (h : RowAt H a row) : ∃ o, H a = some o := h.elim (fun ⟨_, _, e⟩ => ⟨_, e⟩) (fun e => ⟨_, e⟩)
theorem same_eq {H H' : Hp} {a : Addr} {o : HO} (s : Same H H') (h : H a = some o) : H' a = H a := (s _ _ h).trans h.symm
theorem RowAt.kept {H H' : Hp} {a : Addr} {row : List Str} (h : RowAt H a row) (s : Same H H') : H' a = H a := by
  obtain ⟨o, e⟩ := h.some_
  exact same_eq s e
theorem RowAt.oth {H H' : Hp} {a b : Addr} {row : List Str} (h : RowAt H a row) (s : Oth b H H') (hb : IsBox H b) : RowAt H' a row := h.elim (fun e => .inl (e.oth s hb)) (fun e => .inr (s _ _ (hb.ne_strs e) e))
section
variable {X : Cx}
/-- tuple(row), list(row) -/
theorem call_tupRow : CallR X (.type "tuple") (fun xs H Q => ∃ a row, xs = [.ref a] ∧ RowAt H a row ∧ ∀ p H', Same H H' → TupAt H' p (row.map V.str) → Q (.ref p) H') := by
  intro pins s σ H xs us Q I r h
  obtain ⟨a, row, rfl, hrow, q⟩ := h
  rcases hrow with e | e
  · exact call_tupleF pins s σ H _ us Q I r ⟨a, _, rfl, .inr ⟨e.sq, q a H (Same.refl H) e⟩⟩
  · exact call_tupleF pins s σ H _ us Q I r ⟨a, _, rfl, .inl ⟨.inl (.inl e), fun l H' s' n' t' => q l H' s' t'⟩⟩
end

/-! ### list comprehensions that leave some out -/
end Lk
set_option maxRecDepth 100000
set_option maxHeartbeats 4000000
namespace Lk
open PySem PySem.Spec PyProof.Rows L2

/-! ### list comprehensions, by what comes of each one -/
section
variable {J : It} {n : Nat} {G : Hp → Prop} {Y : Nat → Hp → V → Hp → Prop} {g : TG} {tt : TT} {te : TE} {vs : List Nat} {σ : L2.St} {H1 : Hp} {D : Addr} {Qd : Hp → Prop}
/-- each one's value is f of its place -/
theorem lc_vals (w : Walk J n G Y) (f : Nat → V) (hn : n ≤ 1000) (hD : H1 D = none) (hG : ∀ H', Same H1 H' → G H')
    (hs : ∀ (i : Nat) (x : V) (H H' : Hp) (k : V → Hp → Prop), i < n → Same H1 H → Y i H x H' → (∀ H4, Same H H4 → k (f i) H4) → g x (wipe σ vs) H' fun σ2 H2 => wipe σ2 vs = wipe σ vs ∧ te σ2 H2 k)
    (hd : ∀ H, Same H1 H → H D = some (.lst ((List.range n).map f)) → Qd H) :
    ∃ W : Nat → Nat → Hp → Prop, (∃ m, W 0 m (upd H1 D (.lst []))) ∧ ∀ i m H, W i m H →
      (J.stop i H ∧ Qd H) ∨ (J.go i H ∧ ∃ Nx : Hp → Prop, (∀ H', Nx H' → ∃ m', m' < m ∧ W (i + 1) m' H') ∧ ∀ x H', J.yld i H x H' → g x (wipe σ vs) H' fun σ2 H2 => wipe σ2 vs = wipe σ vs ∧ tYes σ2 H2 fun b H3 =>
        if b = true then te σ2 H3 fun y H4 => ∃ acc, H4 D = some (.lst acc) ∧ acc.length < sizeLine ∧ Nx (upd H4 D (.lst (acc ++ [y]))) else Nx H3) := by
  refine lc_it w (fun i H' => Same H1 H' ∧ H' D = some (.lst ((List.range i).map f))) ⟨same_upd hD, upd_same⟩ (fun i H' _ h => hG H' h.1) ?_ (fun H h => hd H h.1 h.2)
  rintro i v H H' hi ⟨s1, d1⟩ y
  refine hs i v H H' _ hi s1 y fun H4 s4 => ?_
  refine ⟨_, s4 _ _ d1, ?_, fun b o e => ?_, ?_⟩
  · rw [List.length_map, List.length_range]
    exact small1000 (by omega)
  · rw [upd_ne (ne_of_none e hD)]
    exact s4 _ _ (s1 _ _ e)
  · rw [upd_same, List.range_succ, List.map_append]
    rfl
/-- texts -/
theorem lc_strs (w : Walk J n G Y) (xs : List Str) (hl : xs.length = n) (hn : n ≤ 1000) (hD : H1 D = none) (hG : ∀ H', Same H1 H' → G H')
    (hs : ∀ (i : Nat) (x : Str) (v : V) (H H' : Hp) (k : V → Hp → Prop), xs[i]? = some x → Same H1 H → Y i H v H' → (∀ H4, Same H H4 → k (.str x) H4) → g v (wipe σ vs) H' fun σ2 H2 => wipe σ2 vs = wipe σ vs ∧ te σ2 H2 k)
    (hd : ∀ H, Same H1 H → H D = some (.lst (xs.map V.str)) → Qd H) :
    ∃ W : Nat → Nat → Hp → Prop, (∃ m, W 0 m (upd H1 D (.lst []))) ∧ ∀ i m H, W i m H →
      (J.stop i H ∧ Qd H) ∨ (J.go i H ∧ ∃ Nx : Hp → Prop, (∀ H', Nx H' → ∃ m', m' < m ∧ W (i + 1) m' H') ∧ ∀ x H', J.yld i H x H' → g x (wipe σ vs) H' fun σ2 H2 => wipe σ2 vs = wipe σ vs ∧ tYes σ2 H2 fun b H3 =>
        if b = true then te σ2 H3 fun y H4 => ∃ acc, H4 D = some (.lst acc) ∧ acc.length < sizeLine ∧ Nx (upd H4 D (.lst (acc ++ [y]))) else Nx H3) := by
  refine lc_it w (fun i H' => Same H1 H' ∧ H' D = some (.lst ((xs.take i).map V.str))) ⟨same_upd hD, upd_same⟩ (fun i H' _ h => hG H' h.1) ?_ (fun H h => hd H h.1 ?_)
  · rintro i v H H' hi ⟨s1, d1⟩ y
    obtain ⟨x, hx⟩ : ∃ x, xs[i]? = some x := ⟨xs[i]'(by omega), List.getElem?_eq_getElem (by omega)⟩
    refine hs i x v H H' _ hx s1 y fun H4 s4 => ?_
    refine ⟨_, s4 _ _ d1, ?_, fun b o e => ?_, ?_⟩
    · rw [List.length_map, List.length_take]
      exact small1000 (by omega)
    · rw [upd_ne (ne_of_none e hD)]
      exact s4 _ _ (s1 _ _ e)
    · rw [upd_same, List.take_add_one, hx, List.map_append]
      rfl
  · have d1 := h.2
    rw [List.take_of_length_le (by omega)] at d1
    exact d1
/-- one of each -/
theorem lc_list {α : Type} (w : Walk J n G Y) (xs : List α) (f : α → V) (hl : xs.length = n) (hn : n ≤ 1000) (hD : H1 D = none) (hG : ∀ H', Same H1 H' → G H')
    (hs : ∀ (i : Nat) (x : α) (v : V) (H H' : Hp) (k : V → Hp → Prop), xs[i]? = some x → Same H1 H → Y i H v H' → (∀ H4, Same H H4 → k (f x) H4) → g v (wipe σ vs) H' fun σ2 H2 => wipe σ2 vs = wipe σ vs ∧ te σ2 H2 k)
    (hd : ∀ H, Same H1 H → H D = some (.lst (xs.map f)) → Qd H) :
    ∃ W : Nat → Nat → Hp → Prop, (∃ m, W 0 m (upd H1 D (.lst []))) ∧ ∀ i m H, W i m H →
      (J.stop i H ∧ Qd H) ∨ (J.go i H ∧ ∃ Nx : Hp → Prop, (∀ H', Nx H' → ∃ m', m' < m ∧ W (i + 1) m' H') ∧ ∀ x H', J.yld i H x H' → g x (wipe σ vs) H' fun σ2 H2 => wipe σ2 vs = wipe σ vs ∧ tYes σ2 H2 fun b H3 =>
        if b = true then te σ2 H3 fun y H4 => ∃ acc, H4 D = some (.lst acc) ∧ acc.length < sizeLine ∧ Nx (upd H4 D (.lst (acc ++ [y]))) else Nx H3) := by
  refine lc_it w (fun i H' => Same H1 H' ∧ H' D = some (.lst ((xs.take i).map f))) ⟨same_upd hD, upd_same⟩ (fun i H' _ h => hG H' h.1) ?_ (fun H h => hd H h.1 ?_)
  · rintro i v H H' hi ⟨s1, d1⟩ y
    obtain ⟨x, hx⟩ : ∃ x, xs[i]? = some x := ⟨xs[i]'(by omega), List.getElem?_eq_getElem (by omega)⟩
    refine hs i x v H H' _ hx s1 y fun H4 s4 => ?_
    refine ⟨_, s4 _ _ d1, ?_, fun b o e => ?_, ?_⟩
    · rw [List.length_map, List.length_take]
      exact small1000 (by omega)
    · rw [upd_ne (ne_of_none e hD)]
      exact s4 _ _ (s1 _ _ e)
    · rw [upd_same, List.take_add_one, hx, List.map_append]
      rfl
  · have d1 := h.2
    rw [List.take_of_length_le (by omega)] at d1
    exact d1
/-- those that p takes -/
theorem lc_take {xs : List Str} (w : Walk J (xs.map V.str).length G Y) (p : Str → Bool) (hn : xs.length ≤ 1000) (hD : H1 D = none) (hG : ∀ H', Same H1 H' → G H')
    (hs : ∀ (i : Nat) (x : Str) (v : V) (H H' : Hp) (k : V → Hp → Prop) (k0 : Hp → Prop), xs[i]? = some x → Same H1 H → Y i H v H' → (p x = true → ∀ H4, Same H H4 → k (.str x) H4) → (p x = false → ∀ H4, Same H H4 → k0 H4) →
      g v (wipe σ vs) H' fun σ2 H2 => wipe σ2 vs = wipe σ vs ∧ tt σ2 H2 fun b H3 => if b = true then te σ2 H3 k else k0 H3)
    (hd : ∀ H, Same H1 H → H D = some (.lst ((xs.filter p).map V.str)) → Qd H) :
    ∃ W : Nat → Nat → Hp → Prop, (∃ m, W 0 m (upd H1 D (.lst []))) ∧ ∀ i m H, W i m H →
      (J.stop i H ∧ Qd H) ∨ (J.go i H ∧ ∃ Nx : Hp → Prop, (∀ H', Nx H' → ∃ m', m' < m ∧ W (i + 1) m' H') ∧ ∀ x H', J.yld i H x H' → g x (wipe σ vs) H' fun σ2 H2 => wipe σ2 vs = wipe σ vs ∧ tt σ2 H2 fun b H3 =>
        if b = true then te σ2 H3 fun y H4 => ∃ acc, H4 D = some (.lst acc) ∧ acc.length < sizeLine ∧ Nx (upd H4 D (.lst (acc ++ [y]))) else Nx H3) := by
  refine lc_it w (fun i H' => Same H1 H' ∧ H' D = some (.lst (((xs.take i).filter p).map V.str))) ⟨same_upd hD, upd_same⟩ (fun i H' _ h => hG H' h.1) ?_ ?_
  · rintro i v H H' hi ⟨s1, d1⟩ y
    rw [List.length_map] at hi
    obtain ⟨x, hx⟩ : ∃ x, xs[i]? = some x := ⟨xs[i], List.getElem?_eq_getElem hi⟩
    have ft : (xs.take (i + 1)).filter p = (xs.take i).filter p ++ if p x = true then [x] else [] := by
      rw [List.take_add_one, hx, List.filter_append]
      show _ ++ List.filter p [x] = _
      rw [List.filter_cons, List.filter_nil]
    refine hs i x v H H' _ _ hx s1 y (fun c H4 s4 => ?_) (fun c H4 s4 => ?_)
    · rw [if_pos c] at ft
      refine ⟨_, s4 _ _ d1, ?_, fun b o e => ?_, ?_⟩
      · rw [List.length_map]
        exact small1000 (Nat.le_trans (List.length_filter_le _ _) (by rw [List.length_take]; omega))
      · rw [upd_ne (ne_of_none e hD)]
        exact s4 _ _ (s1 _ _ e)
      · rw [upd_same, ft, List.map_append]
        rfl
    · rw [if_neg (by rw [c]; exact Bool.false_ne_true), List.append_nil] at ft
      exact ⟨s1.trans s4, by rw [ft]; exact s4 _ _ d1⟩
  · rintro H ⟨s1, d1⟩
    rw [List.length_map, List.take_of_length_le (Nat.le_refl _)] at d1
    exact hd H s1 d1
end
end Lk
set_option maxRecDepth 100000
set_option maxHeartbeats 4000000
namespace Lk
open PySem PySem.Spec PyProof.Rows L2
/-! ### the set of a tuple of texts -/
section
variable {P : Program} {w : World} {A : Around} {E : Value → Shared → Prop} {s : Shared}
end
section
variable {X : Cx}
end
end Lk
set_option maxRecDepth 100000
set_option maxHeartbeats 4000000
namespace Lk
open PySem PySem.Spec PyProof.Rows L2
theorem gone_stand {ps : List (Str × Str)} (irr : Irr ps) : ∀ (n : Nat) (row : List Str), row.length = n → row.Nodup → goneR ps [] row = [] → standOf ps (goneO ps [] row).reverse = row
  | n, row, hn, hd, h => by
    cases e : (someL ps [] row).getLast? with
    | none =>
      obtain ⟨g1, g2⟩ := gone_none (List.getLast?_eq_none_iff.mp e)
      rw [g2] at h
      rw [g1, h]
      rfl
    | some x =>
      obtain ⟨g1, g2⟩ := gone_some hd e
      have lx := (looseL_iff irr hd).mp (someL_sub (last_mem e)).1
      have rl := rem_len hd lx.mem
      match n, hn with
      | 0, hn => omega
      | n + 1, hn =>
        have ih := gone_stand irr n (rem row x) (by omega) (rem_nodup hd) (by rw [← g2]; exact h)
        rw [g1, List.reverse_cons, standOf_app, ih]
        exact loose_come irr hd lx
theorem ord_ring {ps : List (Str × Str)} {row : List Str} (irr : Irr ps) (hd : row.Nodup) (ne : goneR ps [] row ≠ []) : RingOk ps row (goneR ps [] row) (ringOf ps row (goneR ps [] row)) := by
  obtain ⟨r1, r2, _⟩ := gone_red (stay := []) irr row.length row rfl hd
  exact ringOf_ok hd r1 r2 ne
theorem ord_len {ps : List (Str × Str)} {row : List Str} {bs : List B3} (irr : Irr ps) (hd : row.Nodup) (ne : goneR ps [] row ≠ []) (e : bs.map (·.2) = ringOf ps row (goneR ps [] row)) : bs.length ≤ row.length := by
  obtain ⟨r1, _, _⟩ := gone_red (stay := []) irr row.length row rfl hd
  have h := ring_len (ord_ring irr hd ne)
  rw [← e, List.length_map] at h
  exact Nat.le_trans h r1.len
theorem OrdAt.lst {H : Hp} {p : Addr} {w : Str} {ps : List (Str × Str)} {row : List Str} (irr : Irr ps) (hd : row.Nodup) (hn : row.length ≤ 100) (h : OrdAt H p w ps row) : ∃ xs, H p = some (.lst xs) ∧ xs.length ≤ 100 ∧
    (∀ ke H', Same H H' → H' ke = some (.lst xs) → OrdAt H' ke w ps row) ∧ (∀ ke o', ke ≠ p → H ke = some (.lst xs) → OrdAt (upd H p o') ke w ps row) := by
  obtain ⟨_, _, gl⟩ := gone_red (stay := []) irr row.length row rfl hd
  rcases h with ⟨a1, a2, a3⟩ | ⟨a1, a2, bs, a3, a4, a5⟩
  · exact ⟨_, a3, by rw [List.length_map, List.length_reverse]; omega, fun ke H' s e => .inl ⟨a1, a2, e⟩, fun ke o' ne e => .inl ⟨a1, a2, (upd_ne ne).trans e⟩⟩
  · have bl := ord_len irr hd a1 a5
    refine ⟨_, a3, by show (bs.map _).length ≤ 100; rw [List.length_map]; omega, fun ke H' s e => .inr ⟨a1, a2, bs, e, a4.same s, a5⟩, fun ke o' ne e => .inr ⟨a1, a2, bs, (upd_ne ne).trans e, fun c hc => ?_, a5⟩⟩
    exact (upd_ne (ne_of (a4 c hc) a3 (fun z => nomatch z))).trans (a4 c hc)
end Lk
set_option maxRecDepth 100000
set_option maxHeartbeats 4000000
namespace Lk
open PySem PySem.Spec PyProof.Rows L2

/-! ### letters -/
theorem letter_ge {c : Nat} (h : 97 ≤ c) : (!decide (([c] : List Nat) < (("a" : Str)).cps.toList)) = true := by
  have e : (("a" : Str)).cps.toList = [97] := by decide +kernel
  rw [e]
  have : ¬ ([c] : List Nat) < [97] := fun z => by
    rcases List.cons_lt_cons_iff.mp z with z | ⟨_, z⟩
    · omega
    · exact absurd z (List.not_lt_nil _)
  rw [decide_eq_false this]
  rfl
theorem letter_le {c : Nat} (h : c ≤ 122) : (!decide ((("z" : Str)).cps.toList < ([c] : List Nat))) = true := by
  have e : (("z" : Str)).cps.toList = [122] := by decide +kernel
  rw [e]
  have : ¬ ([122] : List Nat) < [c] := fun z => by
    rcases List.cons_lt_cons_iff.mp z with z | ⟨_, z⟩
    · omega
    · exact absurd z (List.not_lt_nil _)
  rw [decide_eq_false this]
  rfl

def rLeS : R2 := fun x y H Q => ∃ i j, x = .str i ∧ y = .str j ∧ Q (.bl (!decide (j.cps.toList < i.cps.toList))) H
theorem op_leS {X : Cx} : OpR X (compareOp .LtE) rLeS := op_le_str
/-! ### promises of the small judges -/
def LinksOk (H : Hp) (p : Addr) (bs : List B3) : Prop := H p = some (.lst (refs bs)) ∧ PairsAt H bs ∧ (∀ b ∈ bs, NameOk b.2.1) ∧ (bs.map (·.2.1)).Nodup ∧ bs ≠ [] ∧ bs.length ≤ 100
theorem LinksOk.same {H H' : Hp} {p : Addr} {bs : List B3} (s : Same H H') (h : LinksOk H p bs) : LinksOk H' p bs := ⟨s _ _ h.1, h.2.1.same s, h.2.2⟩
def nextsL (bs : List B3) (last : Str) : List Str := (bs.drop 1).map (·.2.1) ++ [last]
end Lk
set_option maxRecDepth 100000
set_option maxHeartbeats 4000000
namespace Lk
open PySem PySem.Spec PyProof.Rows L2

/-! ### whoever comes, the same are left -/
/-- what order_of told, and who came since -/
def MatAt (H : Hp) (p : Addr) (word : Str) (ps : List (Str × Str)) (row more : List Str) : Prop :=
  (word = "ring" ∧ goneR ps [] row ≠ [] ∧ ∃ bs : List B3, H p = some (.lst (refs bs)) ∧ PairsAt H bs ∧ bs.map (·.2) = ringOf ps row (goneR ps [] row)) ∨ (word = "order" ∧ goneR ps [] row = [] ∧ H p = some (.lst (((goneO ps [] row).reverse ++ more).map V.str)))
theorem MatAt.same {H H' : Hp} {p : Addr} {word : Str} {ps : List (Str × Str)} {row more : List Str} (s : Same H H') (h : MatAt H p word ps row more) : MatAt H' p word ps row more :=
  h.elim (fun ⟨h1, h2, bs, h3, h4, h5⟩ => .inl ⟨h1, h2, bs, s _ _ h3, h4.same s, h5⟩) (fun ⟨h1, h2, h3⟩ => .inr ⟨h1, h2, s _ _ h3⟩)
theorem OrdAt.word {H : Hp} {p : Addr} {w : Str} {ps : List (Str × Str)} {row : List Str} (h : OrdAt H p w ps row) : (w = "ring" ∧ goneR ps [] row ≠ []) ∨ (w = "order" ∧ goneR ps [] row = []) := h.elim (fun h => .inr ⟨h.2.1, h.1⟩) (fun h => .inl ⟨h.2.1, h.1⟩)
end Lk
set_option maxRecDepth 100000
set_option maxHeartbeats 4000000
namespace Lk
open PySem PySem.Spec PyProof.Rows L2

/-! ### deeds: nobody: a serving; somebody: its coming -/
abbrev Deed := Option Str
def deedL : Deed → List Str
  | none => ["serve"]
  | some x => ["come", x]
abbrev LD := Addr × Deed
def refsD (ds : List LD) : List V := ds.map fun q => V.ref q.1
def DeedsAt (H : Hp) (ds : List LD) : Prop := ∀ q ∈ ds, TupAt H q.1 ((deedL q.2).map V.str)
theorem DeedsAt.same {H H' : Hp} {ds : List LD} (s : Same H H') (h : DeedsAt H ds) : DeedsAt H' ds := fun q hq => (h q hq).same s
/-- the row and those who were served, behind one deed -/
def stepD (ps : List (Str × Str)) (st : List Str × List Str) (met : List Str) : Deed → Option (List Str × List Str)
  | none => if st.1 = [] then none else some (st.1.drop 1, st.2 ++ st.1.take 1)
  | some x => if x ∈ met then none else some (comeTo ps st.1 x, st.2)
def comers (ds : List Deed) : List Str := ds.filterMap id
def goD (ps : List (Str × Str)) : List Deed → List Str × List Str → List Str → Option (List Str × List Str)
  | [], st, _ => some st
  | d :: ds, st, met => match stepD ps st met d with
    | none => none
    | some st' => goD ps ds st' (met ++ d.toList)
theorem goD_snoc (ps : List (Str × Str)) (d : Deed) : ∀ (ds : List Deed) (st : List Str × List Str) (met : List Str), goD ps (ds ++ [d]) st met = match goD ps ds st met with | none => none | some st' => stepD ps st' (met ++ comers ds) d
  | [], st, met => by
    show (match stepD ps st met d with | none => none | some st' => some st') = stepD ps st (met ++ comers []) d
    rw [show met ++ comers [] = met from List.append_nil met]
    cases stepD ps st met d <;> rfl
  | e :: ds, st, met => by
    show (match stepD ps st met e with | none => none | some st' => goD ps (ds ++ [d]) st' (met ++ e.toList)) = match (match stepD ps st met e with | none => none | some st' => goD ps ds st' (met ++ e.toList)) with | none => none | some st' => stepD ps st' (met ++ comers (e :: ds)) d
    cases h : stepD ps st met e with
    | none => rfl
    | some st' =>
      show goD ps (ds ++ [d]) st' (met ++ e.toList) = match goD ps ds st' (met ++ e.toList) with | none => none | some st'' => stepD ps st'' (met ++ comers (e :: ds)) d
      rw [goD_snoc ps d ds st' (met ++ e.toList)]
      have ec : met ++ e.toList ++ comers ds = met ++ comers (e :: ds) := by
        rw [List.append_assoc]
        cases e with
        | none => rfl
        | some x => rfl
      rw [ec]
/-- nobody is in it twice, and none but those who came or were there -/
theorem go_perm {ps : List (Str × Str)} : ∀ (ds : List Deed) (st : List Str × List Str) (met : List Str) (st' : List Str × List Str), goD ps ds st met = some st' → (st'.2 ++ st'.1).Perm (comers ds ++ (st.2 ++ st.1))
  | [], st, met, st', h => by
    have e : st = st' := Option.some.inj h
    subst e
    exact List.Perm.refl _
  | d :: ds, st, met, st', h => by
    have h' : (match stepD ps st met d with | none => none | some s2 => goD ps ds s2 (met ++ d.toList)) = some st' := h
    cases e : stepD ps st met d with
    | none => rw [e] at h'; cases h'
    | some s2 =>
      rw [e] at h'
      have ih := go_perm ds s2 (met ++ d.toList) st' h'
      refine ih.trans ?_
      cases d with
      | none =>
        have e2 : (if st.1 = [] then none else some (st.1.drop 1, st.2 ++ st.1.take 1)) = some s2 := e
        by_cases c : st.1 = []
        · rw [if_pos c] at e2
          cases e2
        · rw [if_neg c] at e2
          have e3 := Option.some.inj e2
          subst e3
          show (comers ds ++ ((st.2 ++ st.1.take 1) ++ st.1.drop 1)).Perm (comers ds ++ (st.2 ++ st.1))
          rw [List.append_assoc, List.take_append_drop]
      | some x =>
        have e2 : (if x ∈ met then none else some (comeTo ps st.1 x, st.2)) = some s2 := e
        by_cases c : x ∈ met
        · rw [if_pos c] at e2
          cases e2
        · rw [if_neg c] at e2
          have e3 := Option.some.inj e2
          subst e3
          show (comers ds ++ (st.2 ++ comeTo ps st.1 x)).Perm (x :: comers ds ++ (st.2 ++ st.1))
          have p1 : (st.2 ++ comeTo ps st.1 x).Perm (x :: (st.2 ++ st.1)) := (List.Perm.append_left _ (come_perm ps st.1 x)).trans List.perm_middle
          exact (List.Perm.append_left _ p1).trans List.perm_middle
/-! ### promises -/
end Lk
set_option maxRecDepth 100000
set_option maxHeartbeats 4000000
namespace Lk
open PySem PySem.Spec PyProof.Rows L2

/-! ### back through servings -/
/-- no friend of it stands behind it -/
def NoBeh (ps : List (Str × Str)) (row : List Str) (x : Str) : Prop := ∃ c d, row = c ++ x :: d ∧ ∀ y ∈ d, frd ps x y = false
theorem LooseIn.nb {ps : List (Str × Str)} {row : List Str} {x : Str} (h : LooseIn ps row x) : NoBeh ps row x := by
  obtain ⟨a, b, e, h1, _⟩ := h
  exact ⟨a, b, e, h1⟩
theorem NoBeh.mem {ps : List (Str × Str)} {row : List Str} {x : Str} (h : NoBeh ps row x) : x ∈ row := by
  obtain ⟨a, b, rfl, _⟩ := h
  simp
theorem NoBeh.cons {ps : List (Str × Str)} {row : List Str} {x : Str} (y : Str) (h : NoBeh ps row x) : NoBeh ps (y :: row) x := by
  obtain ⟨a, b, rfl, h1⟩ := h
  exact ⟨y :: a, b, rfl, h1⟩
theorem NoBeh.rem_ {ps : List (Str × Str)} {row : List Str} {x y : Str} (h : NoBeh ps row x) (ne : x ≠ y) : NoBeh ps (rem row y) x := by
  obtain ⟨a, b, rfl, h1⟩ := h
  refine ⟨rem a y, rem b y, ?_, fun z hz => h1 z (List.mem_filter.mp hz).1⟩
  unfold rem
  rw [List.filter_append, List.filter_cons]
  simp [ne]
theorem diamondN {ps : List (Str × Str)} {row : List Str} {x y : Str} (hd : row.Nodup) (hx : LooseIn ps row x) (hy : NoBeh ps row y) (ne : x ≠ y) : LooseIn ps (rem row y) x := by
  obtain ⟨a, b, e, h1, h2⟩ := hx
  have my : y ∈ row := hy.mem
  obtain ⟨c, d, e', g1⟩ := hy
  have my' : y ∈ a ∨ y ∈ b := by
    rw [e] at my
    rcases List.mem_append.mp my with z | z
    · exact .inl z
    · rcases List.mem_cons.mp z with z | z
      · exact absurd z.symm ne
      · exact .inr z
  rcases my' with m | m
  · obtain ⟨a1, a2, rfl⟩ := List.append_of_mem m
    have e2 : row = a1 ++ y :: (a2 ++ x :: b) := by rw [e]; simp
    have er : rem row y = (a1 ++ a2) ++ x :: b := by
      rw [e2, rem_split (by rw [← e2]; exact hd)]
      simp
    refine ⟨a1 ++ a2, b, er, h1, ?_⟩
    obtain ⟨_, u2⟩ := split_uniq hd e2 e'
    rcases h2 with ⟨a', f, ea, hf⟩ | ⟨na, nb⟩
    · rcases List.eq_nil_or_concat a2 with z | ⟨l, g, z⟩
      · subst z
        have q := List.append_inj' ea (by rfl)
        have ey : y = f := (List.cons.inj q.2).1
        have bad := g1 x (by rw [← u2]; simp)
        rw [frd_comm, ey, hf] at bad
        cases bad
      · rw [List.concat_eq_append] at z
        subst z
        have ea' : (a1 ++ y :: l) ++ [g] = a' ++ [f] := by rw [← ea]; simp
        have q := List.append_inj' ea' rfl
        have eg : g = f := (List.cons.inj q.2).1
        exact .inl ⟨a1 ++ l, g, by simp, by rw [eg]; exact hf⟩
    · exact .inr ⟨fun z hz => na z (by
        rcases List.mem_append.mp hz with w | w
        · exact List.mem_append_left _ w
        · exact List.mem_append_right _ (List.mem_cons_of_mem _ w)), nb⟩
  · obtain ⟨b1, b2, rfl⟩ := List.append_of_mem m
    have e2 : row = (a ++ x :: b1) ++ y :: b2 := by rw [e]; simp
    have er : rem row y = a ++ x :: (b1 ++ b2) := by
      rw [e2, rem_split (by rw [← e2]; exact hd)]
      simp
    refine ⟨a, b1 ++ b2, er, fun z hz => h1 z (by
        rcases List.mem_append.mp hz with w | w
        · exact List.mem_append_left _ w
        · exact List.mem_append_right _ (List.mem_cons_of_mem _ w)), ?_⟩
    rcases h2 with h | ⟨_, z⟩
    · exact .inl h
    · exact absurd z (by simp)
/-- back from a row, `m` served, to one with `m0` served: the last deed first; whoever has to stay at that moment stays -/
inductive Way (ps : List (Str × Str)) (stay : Nat → List Str) (sv : List Str) (m0 : Nat) : Nat → List Str → List Deed → List Str → Prop where
  | done (row : List Str) : Way ps stay sv m0 m0 row [] row
  | go {m : Nat} {row : List Str} {ds : List Deed} {fin : List Str} (x : Str) (h : LooseIn ps row x) (hs : x ∉ stay m) (t : Way ps stay sv m0 m (rem row x) ds fin) : Way ps stay sv m0 m row (some x :: ds) fin
  | back {m : Nat} {row : List Str} {ds : List Deed} {fin : List Str} (y : Str) (h : sv[m]? = some y) (t : Way ps stay sv m0 m (y :: row) ds fin) : Way ps stay sv m0 (m + 1) row (none :: ds) fin
section
variable {ps : List (Str × Str)} {stay stay' : Nat → List Str} {sv : List Str} {m0 m1 m : Nat} {row mid fin : List Str} {ds ds' : List Deed}
theorem Way.le (h : Way ps stay sv m0 m row ds fin) : m0 ≤ m := by
  induction h with
  | done _ => exact Nat.le_refl _
  | go x h hs t ih => exact ih
  | back y h t ih => omega
theorem Way.trans (h : Way ps stay sv m1 m row ds mid) : Way ps stay sv m0 m1 mid ds' fin → Way ps stay sv m0 m row (ds ++ ds') fin := by
  induction h with
  | done _ => exact id
  | go x h hs t ih => exact fun k => .go x h hs (ih k)
  | back y h t ih => exact fun k => .back y h (ih k)
theorem line_back {y : Str} (h : sv[m]? = some y) : sv.take (m + 1) ++ row = sv.take m ++ y :: row := by
  rw [List.take_add_one, h]
  simp
theorem nd_right {a b : List Str} (h : (a ++ b).Nodup) : b.Nodup := (List.nodup_append.mp h).2.1
theorem nd_rem {a b : List Str} {x : Str} (h : (a ++ b).Nodup) : (a ++ rem b x).Nodup := h.sublist (List.Sublist.append_left List.filter_sublist _)
theorem Way.sub (h : Way ps stay sv m0 m row ds fin) : ∀ x ∈ fin, x ∈ sv.take m ++ row := by
  induction h with
  | done _ => exact fun x hx => List.mem_append_right _ hx
  | go y h hs t ih =>
    intro x hx
    rcases List.mem_append.mp (ih x hx) with z | z
    · exact List.mem_append_left _ z
    · exact List.mem_append_right _ (List.mem_filter.mp z).1
  | back y h t ih =>
    intro x hx
    rw [line_back h]
    exact ih x hx
theorem rem_no {row : List Str} {x : Str} (h : x ∉ row) : rem row x = row := List.filter_eq_self.mpr fun y hy => by
  have : ¬ y = x := fun z => h (z ▸ hy)
  simp [this]
/-- who could go once may be gone at once -/
theorem Way.swap (h : Way ps stay sv m0 m row ds fin) : (sv.take m ++ row).Nodup → ∀ x, NoBeh ps row x → ∃ ds', Way ps stay sv m0 m (rem row x) ds' (rem fin x) := by
  induction h with
  | done row => exact fun _ x _ => ⟨[], .done _⟩
  | @go m row ds fin y hy hs t ih =>
    intro hd x hx
    by_cases e : y = x
    · subst e
      have ny : y ∉ fin := fun z => by
        have q := t.sub y z
        have dj := (List.nodup_append.mp hd).2.2
        rcases List.mem_append.mp q with u | u
        · exact dj y u y hx.mem rfl
        · have := (List.mem_filter.mp u).2
          simp at this
      rw [rem_no ny]
      exact ⟨ds, t⟩
    · obtain ⟨ds', w⟩ := ih (nd_rem hd) x (hx.rem_ (fun z => e z.symm))
      rw [rem_comm] at w
      exact ⟨some y :: ds', .go y (diamondN (nd_right hd) hy hx e) hs w⟩
  | @back m row ds fin y hy t ih =>
    intro hd x hx
    rw [line_back hy] at hd
    have ne : y ≠ x := fun z => by
      have := (List.nodup_cons.mp (nd_right hd)).1
      exact this (z ▸ hx.mem)
    obtain ⟨ds', w⟩ := ih hd x (hx.cons y)
    have e : rem (y :: row) x = y :: rem row x := by
      unfold rem
      rw [List.filter_cons]
      simp [ne]
    rw [e] at w
    exact ⟨none :: ds', .back y hy w⟩
/-- whoever can go goes, at every moment -/
def trace (ps : List (Str × Str)) (stay : Nat → List Str) (sv : List Str) : Nat → List Str → List Deed × List Str
  | 0, row => ((goneO ps (stay 0) row).map some, goneR ps (stay 0) row)
  | m + 1, row => ((goneO ps (stay (m + 1)) row).map some ++ none :: (trace ps stay sv m (sv.getD m "" :: goneR ps (stay (m + 1)) row)).1, (trace ps stay sv m (sv.getD m "" :: goneR ps (stay (m + 1)) row)).2)
theorem Red.nd2 {s : List Str} {a row n : List Str} (r : Red ps s row n) : (a ++ row).Nodup → (a ++ n).Nodup := by
  induction r with
  | done _ => exact id
  | go x _ _ t ih => exact fun h => ih (nd_rem h)
/-! ### histories are such ways -/
def Free (stay : Nat → List Str) : Nat → List Deed → Prop
  | _, [] => True
  | m, none :: ds => Free stay (m + 1) ds
  | m, some x :: ds => x ∉ stay m ∧ Free stay m ds
theorem go_pre : ∀ (ds : List Deed) {st : List Str × List Str} {met : List Str} {st' : List Str × List Str}, goD ps ds st met = some st' → ∃ e, st'.2 = st.2 ++ e
  | [], st, met, st', h => by
    have e : st = st' := Option.some.inj h
    subst e
    exact ⟨[], by simp⟩
  | d :: ds, st, met, st', h => by
    have h' : (match stepD ps st met d with | none => none | some s2 => goD ps ds s2 (met ++ d.toList)) = some st' := h
    cases e : stepD ps st met d with
    | none => rw [e] at h'; cases h'
    | some s2 =>
      rw [e] at h'
      obtain ⟨e3, q⟩ := go_pre ds h'
      cases d with
      | none =>
        have e2 : (if st.1 = [] then none else some (st.1.drop 1, st.2 ++ st.1.take 1)) = some s2 := e
        by_cases c : st.1 = []
        · rw [if_pos c] at e2
          cases e2
        · rw [if_neg c] at e2
          have e5 := Option.some.inj e2
          subst e5
          exact ⟨st.1.take 1 ++ e3, by rw [q, List.append_assoc]⟩
      | some x =>
        have e2 : (if x ∈ met then none else some (comeTo ps st.1 x, st.2)) = some s2 := e
        by_cases c : x ∈ met
        · rw [if_pos c] at e2
          cases e2
        · rw [if_neg c] at e2
          have e5 := Option.some.inj e2
          subst e5
          exact ⟨e3, q⟩
theorem go_way : ∀ (ds : List Deed) {st0 gn0 met st gn : List Str}, goD ps ds (st0, gn0) met = some (st, gn) → (∀ x ∈ gn0 ++ st0, x ∈ met) → (gn0 ++ st0).Nodup → Free stay gn0.length ds → (∃ more, sv = gn ++ more) → Way ps stay sv gn0.length gn.length st ds.reverse st0
  | [], st0, gn0, met, st, gn, h, _, _, _, _ => by
    have e : (st0, gn0) = (st, gn) := Option.some.inj h
    have e1 : st0 = st := congrArg Prod.fst e
    have e2 : gn0 = gn := congrArg Prod.snd e
    subst e1
    subst e2
    exact .done _
  | none :: ds, st0, gn0, met, st, gn, h, hm, hd, hf, hs => by
    have h' : (match (if st0 = [] then none else some (st0.drop 1, gn0 ++ st0.take 1)) with | none => none | some s2 => goD ps ds s2 (met ++ [])) = some (st, gn) := h
    cases st0 with
    | nil =>
      rw [if_pos rfl] at h'
      cases h'
    | cons y st1 =>
      rw [if_neg (by simp), List.append_nil] at h'
      have h2 : goD ps ds (st1, gn0 ++ [y]) met = some (st, gn) := h'
      have hd2 : ((gn0 ++ [y]) ++ st1).Nodup := by
        rw [List.append_assoc]
        exact hd
      have l1 : (gn0 ++ [y]).length = gn0.length + 1 := by simp
      have w := go_way ds h2 (fun x hx => hm x (by simpa using hx)) hd2 (by rw [l1]; exact hf) hs
      rw [l1] at w
      obtain ⟨e, q⟩ := go_pre ds h2
      obtain ⟨more, hmore⟩ := hs
      have at_ : sv[gn0.length]? = some y := by
        rw [hmore, show gn = (gn0 ++ [y]) ++ e from q]
        simp
      rw [List.reverse_cons]
      exact w.trans (.back y at_ (.done _))
  | some x :: ds, st0, gn0, met, st, gn, h, hm, hd, hf, hs => by
    have h' : (match (if x ∈ met then none else some (comeTo ps st0 x, gn0)) with | none => none | some s2 => goD ps ds s2 (met ++ [x])) = some (st, gn) := h
    by_cases c : x ∈ met
    · rw [if_pos c] at h'
      cases h'
    · rw [if_neg c] at h'
      have h2 : goD ps ds (comeTo ps st0 x, gn0) (met ++ [x]) = some (st, gn) := h'
      have nx : x ∉ gn0 ++ st0 := fun z => c (hm x z)
      have pm : (gn0 ++ comeTo ps st0 x).Perm (x :: (gn0 ++ st0)) := (List.Perm.append_left _ (come_perm ps st0 x)).trans List.perm_middle
      have hd2 : (gn0 ++ comeTo ps st0 x).Nodup := pm.nodup_iff.mpr (List.nodup_cons.mpr ⟨nx, hd⟩)
      have w := go_way ds h2 (fun y hy => by
        rcases List.mem_cons.mp (pm.mem_iff.mp hy) with z | z
        · rw [z]
          simp
        · exact List.mem_append_left _ (hm y z)) hd2 hf.2 hs
      rw [List.reverse_cons]
      refine w.trans (.go x (come_loose ps st0 x) hf.1 ?_)
      rw [come_rem (List.nodup_cons.mpr ⟨fun z => nx (List.mem_append_right _ z), nd_right hd⟩)]
      exact .done _
end
/-! ### traced_back -/
def waitN (ws : Option (Str × Nat)) (m : Nat) : List Str := match ws with
  | none => []
  | some (w, n) => if n = m then [] else [w]
def stayF (elders : List Str) (ws : Option (Str × Nat)) (m : Nat) : List Str := elders ++ waitN ws m
/-- they all stand in the line, one behind the other -/
def InLine (line elders : List Str) : Prop := (∀ x ∈ elders, x ∈ line) ∧ elders.Pairwise fun x y => line.idxOf x ≤ line.idxOf y
end Lk
set_option maxRecDepth 100000
set_option maxHeartbeats 4000000
namespace Lk
open PySem PySem.Spec PyProof.Rows L2
end Lk
set_option maxRecDepth 100000
set_option maxHeartbeats 4000000
namespace Lk
open PySem PySem.Spec PyProof.Rows L2
/-! ### deeds that can be done -/
/-! ### ways, one behind the other -/
theorem Way.shift {ps : List (Str × Str)} {stay : Nat → List Str} {sv : List Str} {m0 m c : Nat} {row fin : List Str} {ds : List Deed} (h : Way ps (fun k => stay (k + c)) (sv.drop c) m0 m row ds fin) : Way ps stay sv (m0 + c) (m + c) row ds fin := by
  induction h with
  | done _ => exact .done _
  | go x h hs t ih => exact .go x h hs ih
  | @back m row ds fin y h t ih =>
    rw [show m + 1 + c = (m + c) + 1 by omega]
    refine .back y ?_ ih
    rw [List.getElem?_drop] at h
    rw [show m + c = c + m by omega]
    exact h
end Lk
set_option maxRecDepth 100000
set_option maxHeartbeats 4000000
namespace Lk
open PySem PySem.Spec PyProof.Rows L2
/-! ### set(ns), ns a list of ints, none of them twice -/
section
variable {P : Program} {w : World} {A : Around} {E : Value → Shared → Prop} {s : Shared}
end
section
variable {X : Cx}
end
end Lk
set_option maxRecDepth 100000
set_option maxHeartbeats 4000000
namespace Lk
open PySem PySem.Spec PyProof.Rows L2
/-! ### a def whose last parameter, by its name alone, has a default: a bare tuple -/
structure CalK (P : Program) (w : World) (K : PySem.W.Frag) (mg : Str → Option Value) (base : Heap) (k : Nat) (x : Str) (ps : List Str) (n : Nat) (kw : Str) (sp : Sp) (E : Addr) : Prop where
  ex : ∃ f fd, FnOk P w K mg base CX0 k f fd ps sp ∧ mg x = some (.ref f) ∧ PySem.W.keepIn K (.ref f) = true ∧ KBn K fd ps n [kw] (fun us ws => us ++ ws) (fun vs zs => vs ++ zs) ∧ ∃ ds, Vals [V.ref E] ds ∧ Binds K fd ps ds
  emp : ∃ (o : Obj) (n : Nat), K.lookup E = some o ∧ o.cls = .type "tuple" ∧ o.data = .seq #[] n
theorem CalK.but {P : Program} {w : World} {K : PySem.W.Frag} {mg : Str → Option Value} {base : Heap} {k n : Nat} {x kw : Str} {ps : List Str} {sp : Sp} {E : Addr} (C : CalK P w K mg base k x ps n kw sp E) (H : Hp) : ButKeeps K H E [] := by
  obtain ⟨o, n, h1, h2, h3⟩ := C.emp
  exact fun _ _ => .inr (.inr ⟨o, #[], n, h1, h2, h3, Nat.zero_le _, .nil⟩)
section
variable {X : Cx} {k m n : Nat} {x kw : Str} {ps : List Str} {sp : Sp} {D : Addr} {p pos : Pos} {e : Expr} {es : List Expr} {t tk : TA} {kws : List Keyword}
end
end Lk
set_option maxRecDepth 100000
set_option maxHeartbeats 4000000
namespace Lk
open PySem PySem.Spec PyProof.Rows L2
/-! ### a story in two parts -/
section
variable {ps : List (Str × Str)}
theorem stepD_none {st gn met : List Str} {s2 : List Str × List Str} (h : stepD ps (st, gn) met none = some s2) : ∃ y st1, st = y :: st1 ∧ s2 = (st1, gn ++ [y]) := by
  have e2 : (if st = [] then none else some (st.drop 1, gn ++ st.take 1)) = some s2 := h
  cases st with
  | nil => rw [if_pos rfl] at e2; cases e2
  | cons y st1 =>
    rw [if_neg (by simp)] at e2
    exact ⟨y, st1, rfl, (Option.some.inj e2).symm⟩
theorem stepD_some {st gn met : List Str} {x : Str} {s2 : List Str × List Str} (h : stepD ps (st, gn) met (some x) = some s2) : x ∉ met ∧ s2 = (comeTo ps st x, gn) := by
  have e2 : (if x ∈ met then none else some (comeTo ps st x, gn)) = some s2 := h
  by_cases c : x ∈ met
  · rw [if_pos c] at e2
    cases e2
  · rw [if_neg c] at e2
    exact ⟨c, (Option.some.inj e2).symm⟩
theorem goD_cons {d : Deed} {ds : List Deed} {st st' : List Str × List Str} {met : List Str} (h : goD ps (d :: ds) st met = some st') : ∃ s2, stepD ps st met d = some s2 ∧ goD ps ds s2 (met ++ d.toList) = some st' := by
  have h' : (match stepD ps st met d with | none => none | some s2 => goD ps ds s2 (met ++ d.toList)) = some st' := h
  cases e : stepD ps st met d with
  | none => rw [e] at h'; cases h'
  | some s2 =>
    rw [e] at h'
    exact ⟨s2, rfl, h'⟩
theorem come_sub (ps : List (Str × Str)) (st : List Str) (x : Str) : st.Sublist (comeTo ps st x) := by
  unfold comeTo
  rw [List.append_assoc]
  have h : (st.take (spotOf ps st x) ++ st.drop (spotOf ps st x)).Sublist (st.take (spotOf ps st x) ++ ([x] ++ st.drop (spotOf ps st x))) := List.Sublist.append_left (List.sublist_cons_self _ _) _
  rw [List.take_append_drop] at h
  exact h
/-- the line keeps its order -/
theorem go_sub : ∀ (ds : List Deed) {st gn met st' gn' : List Str}, goD ps ds (st, gn) met = some (st', gn') → (gn ++ st).Sublist (gn' ++ st')
  | [], st, gn, met, st', gn', h => by
    have e : (st, gn) = (st', gn') := Option.some.inj h
    cases e
    exact List.Sublist.refl _
  | d :: ds, st, gn, met, st', gn', h => by
    obtain ⟨s2, h1, h2⟩ := goD_cons h
    cases d with
    | none =>
      obtain ⟨y, st1, rfl, rfl⟩ := stepD_none h1
      have := go_sub ds h2
      rw [List.append_assoc] at this
      exact this
    | some x =>
      obtain ⟨nx, rfl⟩ := stepD_some h1
      exact (List.Sublist.append_left (come_sub ps st x) gn).trans (go_sub ds h2)
theorem inLine_self {line : List Str} (nd : line.Nodup) : line.Pairwise fun x y => line.idxOf x ≤ line.idxOf y := by
  rw [List.pairwise_iff_getElem]
  intro i j hi hj hij
  rw [idx_at nd (List.getElem?_eq_getElem hi), idx_at nd (List.getElem?_eq_getElem hj)]
  omega
theorem inLine_sub {line elders : List Str} (nd : line.Nodup) (h : elders.Sublist line) : InLine line elders := ⟨fun _ hx => h.subset hx, (inLine_self nd).sublist h⟩
theorem sub_filter : ∀ {line a : List Str}, a.Sublist line → line.Nodup → a = line.filter fun x => decide (x ∈ a)
  | _, _, .slnil, _ => rfl
  | _, a, .cons (l₂ := l) x h, nd => by
    have nx : x ∉ a := fun z => (List.nodup_cons.mp nd).1 (h.subset z)
    rw [List.filter_cons]
    simp only [nx, decide_false]
    exact sub_filter h (List.nodup_cons.mp nd).2
  | _, _, .cons₂ (l₁ := a) (l₂ := l) x h, nd => by
    rw [List.filter_cons]
    simp only [List.mem_cons, true_or, decide_true, if_true]
    refine congrArg (x :: ·) ?_
    have e := sub_filter h (List.nodup_cons.mp nd).2
    refine e.trans (List.filter_congr fun y hy => ?_)
    have ny : ¬ y = x := fun z => (List.nodup_cons.mp nd).1 (z ▸ hy)
    simp [ny]
theorem Way.keep {stay : Nat → List Str} {sv : List Str} {m : Nat} {row fin : List Str} {ds : List Deed} {x : Str} (h : Way ps stay sv 0 m row ds fin) (hs : ∀ k, x ∈ stay k) : x ∈ sv.take m ++ row → x ∈ fin := by
  induction h with
  | done _ => exact fun z => by simpa using z
  | go y h hy t ih =>
    refine fun z => ih ?_
    rcases List.mem_append.mp z with u | u
    · exact List.mem_append_left _ u
    · refine List.mem_append_right _ (List.mem_filter.mpr ⟨u, ?_⟩)
      have : ¬ x = y := fun e => hy (e ▸ hs _)
      simp [this]
  | back y h t ih =>
    rw [line_back h]
    exact ih
/-! ### when somebody came -/
/-- a story's beginning and the rest of it -/
structure Parts (ps : List (Str × Str)) (ds1 ds2 : List Deed) (here sb st e : List Str) : Prop where
  g1 : goD ps ds1 ([], []) [] = some (here, sb)
  g2 : goD ps ds2 (here, []) (comers ds1) = some (st, e)
  nd : (comers ds1 ++ comers ds2).Nodup
namespace Parts
variable {ds1 ds2 : List Deed} {here sb st e : List Str}
theorem p1 (h : Parts ps ds1 ds2 here sb st e) : (sb ++ here).Perm (comers ds1) := by
  have := go_perm _ _ _ _ h.g1
  simpa using this
theorem p2 (h : Parts ps ds1 ds2 here sb st e) : (e ++ st).Perm (comers ds2 ++ here) := by
  have := go_perm _ _ _ _ h.g2
  simpa using this
theorem n1 (h : Parts ps ds1 ds2 here sb st e) : (sb ++ here).Nodup := h.p1.nodup_iff.mpr (List.nodup_append.mp h.nd).1
theorem dj (h : Parts ps ds1 ds2 here sb st e) : ∀ y ∈ comers ds2, y ∉ sb ++ here := fun y hy z => (List.nodup_append.mp h.nd).2.2 y (h.p1.mem_iff.mp z) y hy rfl
theorem n2 (h : Parts ps ds1 ds2 here sb st e) : (e ++ st).Nodup := h.p2.nodup_iff.mpr (List.nodup_append.mpr ⟨(List.nodup_append.mp h.nd).2.1, (List.nodup_append.mp h.n1).2.1, fun x hx y hy e => h.dj x hx (by rw [e]; exact List.mem_append_right _ hy)⟩)
theorem n3 (h : Parts ps ds1 ds2 here sb st e) : ((sb ++ e) ++ st).Nodup := by
  rw [List.append_assoc]
  refine List.nodup_append.mpr ⟨(List.nodup_append.mp h.n1).1, h.n2, fun x hx y hy q => ?_⟩
  subst q
  rcases List.mem_append.mp (h.p2.mem_iff.mp hy) with z | z
  · exact h.dj x z (List.mem_append_left _ hx)
  · exact (List.nodup_append.mp h.n1).2.2 x hx x z rfl
theorem w1 (h : Parts ps ds1 ds2 here sb st e) {stay : Nat → List Str} (hf : Free stay 0 ds1) : Way ps stay sb 0 sb.length here ds1.reverse [] := go_way ds1 h.g1 (fun _ z => nomatch z) List.nodup_nil hf ⟨[], (List.append_nil _).symm⟩
theorem w2 (h : Parts ps ds1 ds2 here sb st e) {stay : Nat → List Str} (hf : Free stay 0 ds2) : Way ps stay e 0 e.length st ds2.reverse here :=
  go_way ds2 h.g2 (fun x z => h.p1.mem_iff.mp (List.mem_append_right _ (by simpa using z))) (by simpa using (List.nodup_append.mp h.n1).2.1) hf ⟨[], (List.append_nil _).symm⟩
theorem far (h : Parts ps ds1 ds2 here sb st e) {stay : Nat → List Str} {d : List Deed} {m : List Str} (hw : Way ps (fun k => stay (k + sb.length)) e 0 e.length st d m) : Way ps stay (sb ++ e) sb.length (sb ++ e).length st d m := by
  have e1 : (sb ++ e).drop sb.length = e := by simp
  have := Way.shift (ps := ps) (stay := stay) (sv := sb ++ e) (m0 := 0) (m := e.length) (c := sb.length) (row := st) (fin := m) (ds := d) (by rw [e1]; exact hw)
  rw [Nat.zero_add, show e.length + sb.length = (sb ++ e).length by rw [List.length_append]; omega] at this
  exact this
theorem line (h : Parts ps ds1 ds2 here sb st e) : InLine (e ++ st) here := inLine_sub h.n2 (by simpa using go_sub ds2 h.g2)
end Parts
end

/-! ### comprehensions that leave some out -/
section
variable {J : It} {n : Nat} {G : Hp → Prop} {Y : Nat → Hp → V → Hp → Prop} {g : TG} {tt : TT} {te : TE} {vs : List Nat} {σ : L2.St} {H1 : Hp} {D : Addr} {Qd : Hp → Prop}
end
/-! ### deeds as data -/
/-! ### lists of whole numbers -/
section
variable {X : Cx}
end
end Lk
set_option maxRecDepth 100000
set_option maxHeartbeats 4000000
namespace Lk
open PySem PySem.Spec PyProof.Rows L2

/-! ### behind whom one came -/
end Lk
set_option maxRecDepth 100000
set_option maxHeartbeats 4000000
namespace Lk
open PySem PySem.Spec PyProof.Rows L2

/-! ### lists of lists -/
abbrev LA := Addr × List Str
def ListsAt (H : Hp) (ls : List LA) : Prop := ∀ q ∈ ls, H q.1 = some (.lst (q.2.map V.str))
theorem ListsAt.same {H H' : Hp} {ls : List LA} (s : Same H H') (h : ListsAt H ls) : ListsAt H' ls := fun q hq => s _ _ (h q hq)
theorem ListsAt.app {H : Hp} {ls ms : List LA} (h : ListsAt H ls) (h' : ListsAt H ms) : ListsAt H (ls ++ ms) := fun q hq => (List.mem_append.mp hq).elim (h q) (h' q)
end Lk
set_option maxRecDepth 100000
set_option maxHeartbeats 4000000
namespace Lk
open PySem PySem.Spec PyProof.Rows L2

/-! ### small things that can be written -/
structure Fit (n w : Nat) (d : PyData) : Prop where
  sh : d.showable = true
  nd : d.hasDict = false
  dp : d.depth ≤ n
  lv : d.leavesShort 13 = true
  wt : d.weight ≤ w
theorem Fit.mono {n w n' w' : Nat} {d : PyData} (h : Fit n w d) (h1 : n ≤ n') (h2 : w ≤ w') : Fit n' w' d := ⟨h.sh, h.nd, Nat.le_trans h.dp h1, h.lv, Nat.le_trans h.wt h2⟩
theorem Fit.fits {n w : Nat} {d : PyData} (h : Fit n w d) (hw : w ≤ 1048576) : d.shown.length ≤ sizeLine := PyData.shown_fits (B := 13) (by decide) (by decide) h.lv (Nat.le_trans h.wt (Nat.le_trans hw (by decide)))
theorem fit_none : Fit 0 0 .none := ⟨by simp only [PyData.showable], by simp only [PyData.hasDict], by simp only [PyData.depth, Nat.le_refl], by simp only [PyData.leavesShort], by simp only [PyData.weight, Nat.le_refl]⟩
theorem fit_bool (b : Bool) : Fit 0 0 (.bool b) := ⟨by simp only [PyData.showable], by simp only [PyData.hasDict], by simp only [PyData.depth, Nat.le_refl], by simp only [PyData.leavesShort], by simp only [PyData.weight, Nat.le_refl]⟩
theorem log2_40 {n : Nat} (h : n < 10 ^ 12) : n.log2 < 40 := by
  by_cases z : n = 0
  · subst z
    decide
  · exact (Nat.log2_lt z).mpr (Nat.lt_of_lt_of_le h (by decide))
theorem fit_int {i : Int} (h : i.natAbs < 10 ^ 12) : Fit 0 40 (.int i) := by
  have l := log2_40 h
  refine ⟨?_, by simp only [PyData.hasDict], by simp only [PyData.depth, Nat.le_refl], ?_, ?_⟩
  · simp only [PyData.showable, decide_eq_true_eq]
    omega
  · simp only [PyData.leavesShort, decide_eq_true_eq]
    exact PyData.shown_int_le h
  · simp only [PyData.weight]
    split <;> omega
theorem fit_str {x : Str} {m : Nat} (h : Good x) (hm : x.length ≤ m) : Fit 0 m (.str x) := by
  refine ⟨by simp only [PyData.showable], by simp only [PyData.hasDict], by simp only [PyData.depth, Nat.le_refl], ?_, by simp only [PyData.weight]; exact hm⟩
  simp only [PyData.leavesShort, List.all_eq_true, decide_eq_true_eq]
  intro c hc
  have h0 : x.cps.all (· < 0x110000) = true := h
  rw [← Array.all_toList, List.all_eq_true] at h0
  have := of_decide_eq_true (h0 c hc)
  have e : (16 : Nat) ^ 8 = 4294967296 := by decide
  omega
/-- what is written of a thing -/
def Shown (K : PySem.W.Frag) (H : Hp) (x : V) (d : PyData) : Prop := (∃ a, x = .ref a) ∧ Dp K H x d ∧ ∃ n w, Fit n w d ∧ n ≤ 60 ∧ w ≤ 1048576
section
variable {X : Cx}
def rReprS (K : PySem.W.Frag) : List V → Hp → VK → Prop := fun xs H Q => ∃ (x : V) (d : PyData), xs = [x] ∧ Shown K H x d ∧ Q (.str d.shown) H
theorem call_reprS {k : Nat} (z : Room k X.A) : CallR X (.builtin "repr") (rReprS X.K) := by
  intro pins s σ H xs us Q I r h
  obtain ⟨x, d, rfl, ⟨⟨a, rfl⟩, hd, n, w, f, h1, h2⟩, q⟩ := h
  exact call_repr z pins s σ H _ us Q I r ⟨a, d, rfl, hd, f.sh, f.nd, Nat.le_trans f.dp h1, f.fits h2, q⟩
end
theorem dpAll_map {α : Type} {K : PySem.W.Frag} {H : Hp} (f : α → V) (g : α → PyData) : ∀ {xs : List α}, (∀ x ∈ xs, Dp K H (f x) (g x)) → DpAll K H (xs.map f) (xs.map g)
  | [], _ => .nil
  | x :: xs, h => .cons (h x List.mem_cons_self) (dpAll_map f g fun y hy => h y (List.mem_cons_of_mem _ hy))
/-- friends, as they are written -/
def palsD (ps : List (Str × Str)) : PyData := .tuple (ps.map fun p => .tuple [.str p.1, .str p.2])
theorem PalsAt.dp {K : PySem.W.Frag} {H : Hp} {a : Addr} {ps : List (Str × Str)} (h : PalsAt H a ps) : Dp K H (.ref a) (palsD ps) := by
  obtain ⟨bs, h1, h2, rfl⟩ := h
  unfold palsD
  rw [List.map_map]
  refine .tup (.inl (.inl h1)) (dpAll_map _ _ fun b hb => ?_)
  exact .tup (.inl (.inl (h2 b hb))) (.cons (.str _) (.cons (.str _) .nil))
end Lk
set_option maxRecDepth 100000
set_option maxHeartbeats 4000000
namespace Lk
open PySem PySem.Spec PyProof.Rows L2

/-! ### neighbours exchanged -/
def swapL (l : List Str) (i : Nat) (x y : Str) : List Str := l.take i ++ [y, x] ++ l.drop (i + 2)
/-! ### how many pairs stand the other way about -/
/-! ### promises -/
end Lk
set_option maxRecDepth 100000
set_option maxHeartbeats 4000000
namespace Lk
open PySem PySem.Spec PyProof.Rows L2

/-! ### hosts, as they are told -/
abbrev B3O := Addr × Str × Option Str
def optV : Option Str → V
  | none => .non
  | some y => .str y
def PairsO (H : Hp) (qs : List B3O) : Prop := ∀ q ∈ qs, H q.1 = some (.tup [.str q.2.1, optV q.2.2])
theorem PairsO.same {H H' : Hp} {qs : List B3O} (s : Same H H') (h : PairsO H qs) : PairsO H' qs := fun b hb => s _ _ (h b hb)
theorem PairsO.upd_ {H : Hp} {l : Addr} {ys : List V} {o' : HO} {qs : List B3O} (hl : H l = some (.lst ys)) (h : PairsO H qs) : PairsO (upd H l o') qs := fun c hc => (upd_ne (ne_of (h c hc) hl (fun z => nomatch z))).trans (h c hc)
/-! ### promises -/
/-- whom each bars, and more -/
def LedTo (H : Hp) (D : Addr) (ps : List (Str × Str)) (stand : List Str) (n : Nat) : Prop := ∃ kvs, H D = some (.dK kvs) ∧ kvs.length ≤ 100 ∧ ∀ x ∈ stand.take n, ∃ (la : Addr) (ys : List Str), valV kvs (.inr x) = some (.ref la) ∧ H la = some (.lst (ys.map V.str)) ∧ ys.Nodup ∧ (∀ y ∈ ys, y ∈ stand) ∧ ∀ y ∈ stand, wordsAt ps stand x y ≠ [] → y ∈ ys
theorem LedTo.same {H H' : Hp} {D : Addr} {ps : List (Str × Str)} {stand : List Str} {n : Nat} (s : Same H H') (h : LedTo H D ps stand n) : LedTo H' D ps stand n := by
  obtain ⟨kvs, h1, hk, h2⟩ := h
  refine ⟨kvs, s _ _ h1, hk, fun x hx => ?_⟩
  obtain ⟨la, ys, q1, q2, q3⟩ := h2 x hx
  exact ⟨la, ys, q1, s _ _ q2, q3⟩
end Lk
set_option maxRecDepth 100000
set_option maxHeartbeats 4000000
namespace Lk
open PySem PySem.Spec PyProof.Rows L2
/-! ### from one to another by what bars -/
inductive Leads (ps : List (Str × Str)) (row : List Str) : Str → Str → Prop where
  | one {u v : Str} (hu : u ∈ row) (hv : v ∈ row) (h : Bars ps row u v) : Leads ps row u v
  | more {u w v : Str} (hu : u ∈ row) (hw : w ∈ row) (h : Bars ps row u w) (t : Leads ps row w v) : Leads ps row u v
section
variable {ps : List (Str × Str)} {row order : List Str}
theorem Leads.left {u v : Str} (h : Leads ps row u v) : u ∈ row := by
  cases h with
  | one hu _ _ => exact hu
  | more hu _ _ _ => exact hu
theorem Leads.right {u v : Str} (h : Leads ps row u v) : v ∈ row := by
  induction h with
  | one _ hv _ => exact hv
  | more _ _ _ _ ih => exact ih
theorem Leads.trans {u w v : Str} (h : Leads ps row u w) : Leads ps row w v → Leads ps row u v := by
  induction h with
  | one hu hv h => exact fun t => .more hu hv h t
  | more hu hw h t ih => exact fun k => .more hu hw h (ih k)
/-- an order of a row -/
structure OrdOf (ps : List (Str × Str)) (row order : List Str) : Prop where
  nd : order.Nodup
  pm : order.Perm row
  st : standOf ps order = row
theorem OrdOf.ndr (h : OrdOf ps row order) : row.Nodup := h.pm.nodup_iff.mp h.nd
theorem OrdOf.len (h : OrdOf ps row order) : order.length = row.length := h.pm.length_eq
theorem OrdOf.bars (h : OrdOf ps row order) (irr : Irr ps) : ∀ u ∈ row, ∀ v ∈ row, Bars ps row u v → order.idxOf u < order.idxOf v := (lin_iff irr _ order row rfl h.nd h.pm).mp h.st
theorem Leads.idx {u v : Str} (irr : Irr ps) (o : OrdOf ps row order) (h : Leads ps row u v) : order.idxOf u < order.idxOf v := by
  induction h with
  | one hu hv h => exact o.bars irr _ hu _ hv h
  | more hu hw h t ih => exact Nat.lt_trans (o.bars irr _ hu _ hw h) ih
theorem Leads.ne {u v : Str} (irr : Irr ps) (o : OrdOf ps row order) (h : Leads ps row u v) : u ≠ v := fun e => by
  have := h.idx irr o
  rw [e] at this
  omega
theorem Leads.no {u v : Str} (irr : Irr ps) (o : OrdOf ps row order) (h : Leads ps row u v) : ¬ Leads ps row v u := fun z => (h.trans z).ne irr o rfl
noncomputable def leadsB (ps : List (Str × Str)) (row : List Str) (x y : Str) : Bool := @decide (Leads ps row x y) (Classical.propDecidable _)
/-! ### two parts of an order, one behind the other -/
/-- the early order: those ahead of it, it, all others -/
noncomputable def earlyO (ps : List (Str × Str)) (row order : List Str) (x : Str) : List Str := order.filter (fun y => leadsB ps row y x) ++ [x] ++ order.filter fun y => !leadsB ps row y x && !decide (y = x)
noncomputable def lateO (ps : List (Str × Str)) (row order : List Str) (x : Str) : List Str := order.filter (fun y => !leadsB ps row x y && !decide (y = x)) ++ [x] ++ order.filter (leadsB ps row x)
end
end Lk
set_option maxRecDepth 100000
set_option maxHeartbeats 4000000
namespace Lk
open PySem PySem.Spec PyProof.Rows L2
section
variable {X : Cx}
end
/-! ### a dict that is locked for a walk -/
/-! ### dicts whose values are all True -/
def trueK (ys : List Str) : List (Key × V) := ys.map fun y => ((Sum.inr y : Key), V.bl true)
def SetD (H : Hp) (d : Addr) (ys : List Str) : Prop := H d = some (.dK (trueK ys))
/-! ### who came behind whom -/
abbrev B4 := Str × Addr × List Str
def behK (qs : List B4) : List (Key × V) := qs.map fun q => ((Sum.inr q.1 : Key), V.ref q.2.1)
def BehAt (H : Hp) (D : Addr) (ps : List (Str × Str)) (row xs : List Str) : Prop := ∃ qs : List B4, H D = some (.dK (behK qs)) ∧ qs.map (·.1) = xs ∧ ∀ q ∈ qs, SetD H q.2.1 q.2.2 ∧ q.2.2.Nodup ∧ ∀ y, y ∈ q.2.2 ↔ Leads ps row q.1 y
theorem BehAt.same {H H' : Hp} {D : Addr} {ps : List (Str × Str)} {row xs : List Str} (s : Same H H') (h : BehAt H D ps row xs) : BehAt H' D ps row xs := by
  obtain ⟨qs, h1, h2, h3⟩ := h
  exact ⟨qs, s _ _ h1, h2, fun q hq => ⟨s _ _ (h3 q hq).1, (h3 q hq).2⟩⟩
/-- whom each bars -/
def barsL (ps : List (Str × Str)) (row : List Str) (x : Str) : List Str := row.filter fun y => !decide (wordsAt ps row x y = [])
def BarAt (H : Hp) (D : Addr) (ps : List (Str × Str)) (row : List Str) (n : Nat) : Prop := ∃ kvs, H D = some (.dK kvs) ∧ kvs.length ≤ n ∧ ∀ x ∈ row.take n, ∃ la, valV kvs (.inr x) = some (.ref la) ∧ H la = some (.lst ((barsL ps row x).map V.str))
theorem BarAt.same {H H' : Hp} {D : Addr} {ps : List (Str × Str)} {row : List Str} {n : Nat} (s : Same H H') (h : BarAt H D ps row n) : BarAt H' D ps row n := by
  obtain ⟨kvs, h1, h2, h3⟩ := h
  refine ⟨kvs, s _ _ h1, h2, fun x hx => ?_⟩
  obtain ⟨la, e1, e2⟩ := h3 x hx
  exact ⟨la, e1, s _ _ e2⟩
/-! ### put back at least, at most -/
section
variable {ps : List (Str × Str)} {row order : List Str}
noncomputable def leastN (ps : List (Str × Str)) (row : List Str) (x : Str) (i : Nat) : Nat := ((row.take i).filter (leadsB ps row x)).length
noncomputable def mostN (ps : List (Str × Str)) (row : List Str) (x : Str) (i : Nat) : Nat := ((row.take i).filter fun y => !leadsB ps row y x).length
end
/-! ### triples of a name and two numbers -/
abbrev B3T := Addr × Str × Nat × Nat
def TripAt (H : Hp) (qs : List B3T) : Prop := ∀ q ∈ qs, H q.1 = some (.tup [.str q.2.1, .int q.2.2.1, .int q.2.2.2])
theorem TripAt.same {H H' : Hp} {qs : List B3T} (s : Same H H') (h : TripAt H qs) : TripAt H' qs := fun b hb => s _ _ (h b hb)
theorem TripAt.upd_ {H : Hp} {l : Addr} {ys : List V} {o' : HO} {qs : List B3T} (hl : H l = some (.lst ys)) (h : TripAt H qs) : TripAt (upd H l o') qs := fun c hc => (upd_ne (ne_of (h c hc) hl (fun z => nomatch z))).trans (h c hc)
/-! ### promises -/
/-- the dict of whom each leads to, by the law -/
def AftAt (H : Hp) (D : Addr) (ps : List (Str × Str)) (row xs : List Str) : Prop := ∃ kvs, H D = some (.dK kvs) ∧ kvs.length ≤ xs.length ∧ ∀ x ∈ xs, ∃ (la : Addr) (ys : List Str), valV kvs (.inr x) = some (.ref la) ∧ H la = some (.lst (ys.map V.str)) ∧ ys.Nodup ∧ ∀ y, y ∈ ys ↔ Leads ps row x y
theorem AftAt.same {H H' : Hp} {D : Addr} {ps : List (Str × Str)} {row xs : List Str} (s : Same H H') (h : AftAt H D ps row xs) : AftAt H' D ps row xs := by
  obtain ⟨kvs, h1, h2, h3⟩ := h
  refine ⟨kvs, s _ _ h1, h2, fun x hx => ?_⟩
  obtain ⟨la, ys, e1, e2, e3⟩ := h3 x hx
  exact ⟨la, ys, e1, s _ _ e2, e3⟩
/-- whom each bars, and more, but none that it does not lead to -/
def LedX (H : Hp) (D : Addr) (ps : List (Str × Str)) (stand : List Str) (n : Nat) : Prop := ∃ kvs, H D = some (.dK kvs) ∧ kvs.length ≤ 100 ∧ ∀ x ∈ stand.take n, ∃ (la : Addr) (ys : List Str), valV kvs (.inr x) = some (.ref la) ∧ H la = some (.lst (ys.map V.str)) ∧ ys.Nodup ∧ (∀ y ∈ ys, Leads ps stand x y) ∧ ∀ y ∈ stand, wordsAt ps stand x y ≠ [] → y ∈ ys
theorem LedX.same {H H' : Hp} {D : Addr} {ps : List (Str × Str)} {stand : List Str} {n : Nat} (s : Same H H') (h : LedX H D ps stand n) : LedX H' D ps stand n := by
  obtain ⟨kvs, h1, hk, h2⟩ := h
  refine ⟨kvs, s _ _ h1, hk, fun x hx => ?_⟩
  obtain ⟨la, ys, q1, q2, q3⟩ := h2 x hx
  exact ⟨la, ys, q1, s _ _ q2, q3⟩
/-- rows of pairs, one of each order -/
abbrev LN := Addr × List B3N
def RowsAt (H : Hp) (rs : List LN) : Prop := ∀ r ∈ rs, H r.1 = some (.lst (refsN r.2)) ∧ PairsN H r.2
theorem RowsAt.same {H H' : Hp} {rs : List LN} (s : Same H H') (h : RowsAt H rs) : RowsAt H' rs := fun r hr => ⟨s _ _ (h r hr).1, (h r hr).2.same s⟩
end Lk
set_option maxRecDepth 100000
set_option maxHeartbeats 4000000
namespace Lk
open PySem PySem.Spec PyProof.Rows L2
/-! ### how many pairs stand otherwise -/
section
variable {ps : List (Str × Str)} {row o o2 : List Str}
/-- places, exchanged at one behind the other, that lead from one order to another one -/
inductive Exs (ps : List (Str × Str)) (row : List Str) : List Str → List Nat → List Str → Prop where
  | nil (o : List Str) : Exs ps row o [] o
  | cons {o o' : List Str} {i : Nat} {ts : List Nat} (x y : Str) (hx : o[i]? = some x) (hy : o[i + 1]? = some y) (h : OrdOf ps row (swapL o i x y)) (t : Exs ps row (swapL o i x y) ts o') : Exs ps row o (i :: ts) o'
theorem Exs.at_ {o o' : List Str} {ts : List Nat} (h : Exs ps row o ts o') : ∀ (k : Nat), k ≤ ts.length → ∃ m, Exs ps row o (ts.take k) m ∧ Exs ps row m (ts.drop k) o' := by
  induction h with
  | nil o => exact fun k _ => ⟨o, by rw [List.take_nil]; exact .nil _, by rw [List.drop_nil]; exact .nil _⟩
  | @cons o o' i ts u v hu hv h t ih =>
    intro k hk
    cases k with
    | zero => exact ⟨_, .nil _, .cons u v hu hv h t⟩
    | succ k =>
      obtain ⟨m, m1, m2⟩ := ih k (by simpa using hk)
      exact ⟨m, .cons u v hu hv h m1, m2⟩
theorem Exs.uniq {o a : List Str} {ts : List Nat} (h : Exs ps row o ts a) : ∀ {b : List Str}, Exs ps row o ts b → a = b := by
  induction h with
  | nil o =>
    intro b h
    cases h with
    | nil _ => rfl
  | cons u v hu hv h t ih =>
    intro b k
    cases k with
    | cons x y hx hy h' t' =>
      rw [hu] at hx
      rw [hv] at hy
      cases hx
      cases hy
      exact ih t'
theorem Exs.ord {o a : List Str} {ts : List Nat} (h : Exs ps row o ts a) : OrdOf ps row o → OrdOf ps row a := by
  induction h with
  | nil o => exact id
  | cons u v hu hv h t ih => exact fun _ => ih h
/-! ### what is put back, all together -/
end
/-! ### promises -/
/-! ### a dict made of a list of pairs -/
abbrev B5 := Addr × Str × V
end Lk
set_option maxRecDepth 100000
set_option maxHeartbeats 4000000
namespace Lk
open PySem PySem.Spec PyProof.Rows L2
/-! ### dict(l), l a list of pairs whose first ones are tuples -/
section
variable {prog : Program} {w : World} {A : Around} {E : Value → Shared → Prop}
end
section
variable {X : Cx}
end
/-! ### friends as a dict of their pairs -/
def MatesAt (H : Hp) (a : Addr) (ps : List (Str × Str)) : Prop := ∃ kvs, H a = some (.dT kvs) ∧ ∀ x y, (valV kvs (k2 x y)).isSome = decide ((x, y) ∈ ps)
def PalX (H : Hp) (a : Addr) (ps : List (Str × Str)) : Prop := PalsAt H a ps ∨ MatesAt H a ps
theorem PalX.same {H H' : Hp} {a : Addr} {ps : List (Str × Str)} (s : Same H H') (h : PalX H a ps) : PalX H' a ps := h.elim (fun e => .inl (e.same s)) fun ⟨kvs, h1, h2⟩ => .inr ⟨kvs, s _ _ h1, h2⟩
theorem PalX.oth {H H' : Hp} {a b : Addr} {ps : List (Str × Str)} (s : Oth b H H') (hb : IsBox H b) (h : PalX H a ps) : PalX H' a ps := h.elim (fun e => .inl (e.oth s hb)) fun ⟨kvs, h1, h2⟩ => .inr ⟨kvs, s _ _ (hb.ne_dT h1) h1, h2⟩
theorem PalX.upd_ {H : Hp} {l a : Addr} {ys : List V} {o' : HO} {ps : List (Str × Str)} (h : PalX H a ps) (hl : H l = some (.lst ys)) : PalX (upd H l o') a ps := h.elim (fun e => .inl (e.upd_ hl)) fun ⟨kvs, h1, h2⟩ => .inr ⟨kvs, (upd_ne (ne_of h1 hl (fun z => nomatch z))).trans h1, h2⟩
end Lk
set_option maxRecDepth 100000
set_option maxHeartbeats 4000000
namespace Lk
open PySem PySem.Spec PyProof.Rows L2
/-! ### list.remove of a text -/
section
variable {X : Cx}
end
/-! ### `dict([(pair, True) for pair in pals])` -/
/-! ### whoever can go goes first -/
section
variable {ps : List (Str × Str)} {stay : Nat → List Str} {sv : List Str}
/-- from a row, `m` served, to another one: whoever can go goes, in any order; where none can the last one served is put back -/
inductive Gre (ps : List (Str × Str)) (stay : Nat → List Str) (sv : List Str) : Nat → List Str → Nat → List Str → Prop where
  | done (m : Nat) (row : List Str) : Gre ps stay sv m row m row
  | go {m m' : Nat} {row row' : List Str} (x : Str) (h : LooseIn ps row x) (hs : x ∉ stay m) (t : Gre ps stay sv m (rem row x) m' row') : Gre ps stay sv m row m' row'
  | back {m m' : Nat} {row row' : List Str} (y : Str) (h : sv[m]? = some y) (no : ∀ x, LooseIn ps row x → x ∈ stay (m + 1)) (t : Gre ps stay sv m (y :: row) m' row') : Gre ps stay sv (m + 1) row m' row'
theorem Gre.trans {m m1 m2 : Nat} {a b c : List Str} (h : Gre ps stay sv m a m1 b) : Gre ps stay sv m1 b m2 c → Gre ps stay sv m a m2 c := by
  induction h with
  | done _ _ => exact id
  | go x h hs t ih => exact fun k => .go x h hs (ih k)
  | back y h no t ih => exact fun k => .back y h no (ih k)
theorem Gre.le {m m1 : Nat} {a b : List Str} (h : Gre ps stay sv m a m1 b) : m1 ≤ m := by
  induction h with
  | done _ _ => exact Nat.le_refl _
  | go x h hs t ih => exact ih
  | back y h no t ih => omega
theorem Gre.way {m m1 : Nat} {a b : List Str} (h : Gre ps stay sv m a m1 b) : ∃ ds, Way ps stay sv m1 m a ds b := by
  induction h with
  | done _ _ => exact ⟨[], .done _⟩
  | go x h hs t ih =>
    obtain ⟨ds, w⟩ := ih
    exact ⟨_, .go x h hs w⟩
  | back y h no t ih =>
    obtain ⟨ds, w⟩ := ih
    exact ⟨_, .back y h w⟩
/-- a way from the beginning goes on from wherever this leads to, and no more are left -/
theorem Gre.follow {m m1 u : Nat} {a b : List Str} (h : Gre ps stay sv m a m1 b) : (sv.take m ++ a).Nodup → u ≤ m1 → ∀ {ds fin}, Way ps stay sv u m a ds fin → ∃ ds' fin', Way ps stay sv u m1 b ds' fin' ∧ ∀ x ∈ fin', x ∈ fin := by
  induction h with
  | done m row => exact fun _ _ {ds fin} w => ⟨ds, fin, w, fun _ h => h⟩
  | go x h hs t ih =>
    intro nd hu ds fin w
    obtain ⟨ds', w'⟩ := w.swap nd x h.nb
    obtain ⟨d2, f2, w2, s2⟩ := ih (nd_rem nd) hu w'
    exact ⟨d2, f2, w2, fun y hy => (List.mem_filter.mp (s2 y hy)).1⟩
  | @back m m' row row' y hy no t ih =>
    intro nd hu ds fin w
    have tl := t.le
    cases w with
    | done _ => omega
    | go x h hs t' => exact absurd (no x h) hs
    | back y' hy' t' =>
      rw [hy] at hy'
      cases hy'
      rw [line_back hy] at nd
      exact ih nd hu t'
/-- at the beginning, where none can go any more, the fewest are left -/
theorem Gre.least {m u : Nat} {a b : List Str} (h : Gre ps stay sv m a u b) (nd : (sv.take m ++ a).Nodup) (no : ∀ x, LooseIn ps b x → x ∈ stay u) {ds : List Deed} {fin : List Str} (w : Way ps stay sv u m a ds fin) : ∀ x ∈ b, x ∈ fin := by
  obtain ⟨ds', fin', w', s'⟩ := h.follow nd (Nat.le_refl _) w
  intro x hx
  refine s' x ?_
  cases w' with
  | done _ => exact hx
  | go y hy hs t => exact absurd (no y hy) hs
  | back y hy t =>
    have := t.le
    omega
end
/-! ### promises -/
end Lk
set_option maxRecDepth 100000
set_option maxHeartbeats 4000000
namespace Lk
open PySem PySem.Spec PyProof.Rows L2
/-! ### whether one can have come when so many had been served -/
section
variable {ps : List (Str × Str)} {stay stay' : Nat → List Str} {sv : List Str}
theorem Way.keepB {m0 m : Nat} {row fin : List Str} {ds : List Deed} {x : Str} (h : Way ps stay sv m0 m row ds fin) : (∀ k, m0 ≤ k → k ≤ m → x ∈ stay k) → x ∈ sv.take m ++ row → x ∈ sv.take m0 ++ fin := by
  induction h with
  | done _ => exact fun _ h => h
  | @go m row ds fin y h hs t ih =>
    intro hk hx
    refine ih hk ?_
    rcases List.mem_append.mp hx with z | z
    · exact List.mem_append_left _ z
    · refine List.mem_append_right _ (mem_rem.mpr ⟨z, fun e => ?_⟩)
      rw [← e] at hs
      exact hs (hk m t.le (Nat.le_refl _))
  | @back m row ds fin y h t ih =>
    intro hk hx
    rw [line_back h] at hx
    exact ih (fun k h1 h2 => hk k h1 (by omega)) hx
theorem Gre.keep {m m' : Nat} {a b : List Str} {x : Str} (h : Gre ps stay sv m a m' b) (hk : ∀ k, x ∈ stay k) (hx : x ∈ sv.take m ++ a) : x ∈ sv.take m' ++ b := by
  obtain ⟨ds, w⟩ := h.way
  exact w.keepB (fun k _ _ => hk k) hx
theorem Gre.change {m m' : Nat} {a b : List Str} (h : Gre ps stay sv m a m' b) : (∀ k x, m' ≤ k → x ∈ sv.take m ++ a → x ∉ stay k → x ∉ stay' k) → (∀ k x, m' < k → x ∈ stay k → x ∈ stay' k) → Gre ps stay' sv m a m' b := by
  induction h with
  | done _ _ => exact fun _ _ => .done _ _
  | @go m m' row row' y h hs t ih =>
    intro h1 h2
    refine .go y h (h1 m y t.le (List.mem_append_right _ h.mem) hs) (ih (fun k x hk hx => h1 k x hk ?_) h2)
    rcases List.mem_append.mp hx with z | z
    · exact List.mem_append_left _ z
    · exact List.mem_append_right _ (mem_rem.mp z).1
  | @back m m' row row' y h no t ih =>
    intro h1 h2
    have := t.le
    refine .back y h (fun x hx => h2 (m + 1) x (by omega) (no x hx)) (ih (fun k x hk hx => h1 k x hk ?_) h2)
    rw [line_back h]
    exact hx
end
section
variable {ps : List (Str × Str)} {olds gn st ins1 ins2 : List Str} {name : Str} {many : Nat}
end
end Lk
set_option maxRecDepth 100000
set_option maxHeartbeats 4000000
namespace Lk
open PySem PySem.Spec PyProof.Rows L2
/-! ### why one never comes -/
section
variable {ps : List (Str × Str)} {stay : Nat → List Str} {sv : List Str}
end
section
variable {ps : List (Str × Str)} {stay : Nat → List Str} {sv : List Str}
def behindL (line there : List Str) (who : Str) : List Str := (line.drop (line.idxOf who + 1)).filter fun x => decide (x ∈ there)
def betweenL (line there : List Str) (who : Str) (h : Nat) : List Str := ((line.take (line.idxOf who)).drop (h + 1)).filter fun x => decide (x ∈ there)
end
/-! ### promises -/
def reasonOf (ps : List (Str × Str)) (line : List Str) (many : Nat) (there : List Str) (who : Str) : Str × List Str :=
  match (behindL line there who).filter (frd ps who) with
  | f :: _ => ("friend", [f])
  | [] => match lastP (frd ps who) (line.take (line.idxOf who)) with
    | none => ("behind", (behindL line there who).take 1)
    | some h => ("between", (betweenL line there who h).take 1 ++ if h < many then (behindL line there who).take 1 else [])
/-- a reason: where it is, where its names are, who, the word, the names -/
abbrev LR := Addr × Addr × Str × Str × List Str
def ReasonAt (H : Hp) (q : LR) : Prop := TupAt H q.1 [.str q.2.2.1, .str q.2.2.2.1, .ref q.2.1] ∧ TupAt H q.2.1 (q.2.2.2.2.map V.str)
def refsR (rs : List LR) : List V := rs.map fun q => V.ref q.1
def ReasonsAt (H : Hp) (rs : List LR) : Prop := ∀ q ∈ rs, ReasonAt H q
theorem ReasonAt.same {H H' : Hp} {q : LR} (s : Same H H') (h : ReasonAt H q) : ReasonAt H' q := ⟨h.1.same s, h.2.same s⟩
theorem ReasonAt.oth {H H' : Hp} {b : Addr} {q : LR} (s : Oth b H H') (hb : IsBox H b) (h : ReasonAt H q) : ReasonAt H' q := ⟨h.1.oth s hb, h.2.oth s hb⟩
theorem ReasonAt.upd_ {H : Hp} {l : Addr} {ys : List V} {o' : HO} {q : LR} (h : ReasonAt H q) (hl : H l = some (.lst ys)) : ReasonAt (upd H l o') q := ⟨h.1.upd_ hl, h.2.upd_ hl⟩
/-- who is left, in the line's order -/
def leftL (ps : List (Str × Str)) (elders svd row : List Str) : List Str := (trace ps (stayF elders none) svd svd.length row).2.filter fun x => !decide (x ∈ elders)
/-- what is told of a line -/
def ToldAt (H : Hp) (T : Addr) (ps : List (Str × Str)) (elders svd row : List Str) : Prop :=
  (leftL ps elders svd row = [] ∧ ∃ (u : Addr) (ds : List LD), TupAt H T [.str "deeds", .ref u] ∧ H u = some (.lst (refsD ds)) ∧ DeedsAt H ds ∧ ds.map (·.2) = (trace ps (stayF elders none) svd svd.length row).1.reverse) ∨
  (leftL ps elders svd row ≠ [] ∧ ∃ (p : Addr) (rs : List LR), TupAt H T [.str "none", .ref p] ∧ H p = some (.lst (refsR rs)) ∧ ReasonsAt H rs ∧ rs.map (fun q => q.2.2) = (leftL ps elders svd row).map (fun x => (x, reasonOf ps (svd ++ row) svd.length (leftL ps elders svd row ++ elders) x)))
theorem ToldAt.same {H H' : Hp} {T : Addr} {ps : List (Str × Str)} {elders svd row : List Str} (s : Same H H') (h : ToldAt H T ps elders svd row) : ToldAt H' T ps elders svd row := by
  rcases h with ⟨h0, u, ds, h1, h2, h3, h4⟩ | ⟨h0, p, rs, h1, h2, h3, h4⟩
  · exact .inl ⟨h0, u, ds, h1.same s, s _ _ h2, h3.same s, h4⟩
  · exact .inr ⟨h0, p, rs, h1.same s, s _ _ h2, (fun q hq => (h3 q hq).same s), h4⟩
theorem ToldAt.oth {H H' : Hp} {b T : Addr} {ps : List (Str × Str)} {elders svd row : List Str} (s : Oth b H H') (hb : IsBox H b) (h : ToldAt H T ps elders svd row) : ToldAt H' T ps elders svd row := by
  rcases h with ⟨h0, u, ds, h1, h2, h3, h4⟩ | ⟨h0, p, rs, h1, h2, h3, h4⟩
  · exact .inl ⟨h0, u, ds, h1.oth s hb, s _ _ (hb.ne_refs (xs := ds.map (·.1)) (by rw [List.map_map]; exact h2)) h2, (fun q hq => (h3 q hq).oth s hb), h4⟩
  · exact .inr ⟨h0, p, rs, h1.oth s hb, s _ _ (hb.ne_refs (xs := rs.map (·.1)) (by rw [List.map_map]; exact h2)) h2, (fun q hq => (h3 q hq).oth s hb), h4⟩
end Lk
set_option maxRecDepth 100000
set_option maxHeartbeats 4000000
namespace Lk
open PySem PySem.Spec PyProof.Rows L2
/-! ### goings in any order -/
section
variable {ps : List (Str × Str)} {stay : Nat → List Str} {sv : List Str}
end
/-! ### lists of texts that aren't alike -/
section
variable {X : Cx}
def rNeL : R2 := fun x y H Q => ∃ (a b : Addr) (xs ys : List Str), x = .ref a ∧ y = .ref b ∧ H a = some (.lst (xs.map V.str)) ∧ H b = some (.lst (ys.map V.str)) ∧ Goods xs ∧ Goods ys ∧ Q (.bl (!decide (xs = ys))) H
theorem op_neL (hu : X.A.units + 64 < cLine) : OpR X (compareOp .NotEq) rNeL := by
  intro pins s σ H x y v u Q I rx ry h
  obtain ⟨a, b, xs, ys, rfl, rfl, ha, hb, g1, g2, q⟩ := h
  refine op_neD hu pins s σ H _ _ v u Q I rx ry ⟨_, _, dp_list ha, dp_list hb, sh_list g1, sh_list g2, ?_⟩
  have e : PyData.eqv (.list (xs.map .str)) (.list (ys.map .str)) = decide (xs = ys) := by
    rw [PyData.eqv, eqv_strs]
  rw [e]
  exact q
end
/-! ### promises -/
end Lk
set_option maxRecDepth 100000
set_option maxHeartbeats 4000000
namespace Lk
open PySem PySem.Spec PyProof.Rows L2
/-! ### any list beside [] -/
section
variable {X : Cx}
def rNeNilD (K : PySem.W.Frag) : R2 := fun x y H Q => ∃ (b : Addr) (ds : List PyData), Dp K H x (.list ds) ∧ y = .ref b ∧ H b = some (.lst []) ∧ SeqAt.shaped (.list ds) = true ∧ Q (.bl (!decide (ds.length = 0))) H
theorem eqv_nil (ds : List PyData) : PyData.eqv (.list ds) (.list (([] : List Str).map .str)) = decide (ds.length = 0) := by
  rw [PyData.eqv]
  cases ds with
  | nil => simp [PyData.eqvAll]
  | cons d r => simp [PyData.eqvAll]
theorem op_neNilD (hu : X.A.units + 64 < cLine) : OpR X (compareOp .NotEq) (rNeNilD X.K) := by
  intro pins s σ H x y v u Q I rx ry h
  obtain ⟨b, ds, hd, rfl, hb, sh, q⟩ := h
  refine op_neD hu pins s σ H _ _ v u Q I rx ry ⟨_, _, hd, dp_list (xs := []) hb, sh, sh_list (xs := []) (fun _ h => nomatch h), ?_⟩
  rw [eqv_nil]
  exact q
end
/-! ### a reason as data -/
/-! ### what a reason says -/
def ReasonOk (ps : List (Str × Str)) (line : List Str) (many : Nat) (x w : Str) (os : List Str) : Prop :=
  (∃ f, w = "friend" ∧ os = [f] ∧ f ∈ line ∧ line.idxOf x < line.idxOf f ∧ frd ps x f = true) ∨
  (∃ z, w = "behind" ∧ os = [z] ∧ z ∈ line ∧ line.idxOf x < line.idxOf z ∧ lastP (frd ps x) (line.take (line.idxOf x)) = none) ∨
  (∃ h y, w = "between" ∧ lastP (frd ps x) (line.take (line.idxOf x)) = some h ∧ y ∈ line ∧ h < line.idxOf y ∧ line.idxOf y < line.idxOf x ∧ ((h < many ∧ ∃ z, os = [y, z] ∧ z ∈ line ∧ line.idxOf x < line.idxOf z) ∨ (¬ h < many ∧ os = [y])))
theorem ReasonOk.mem {ps : List (Str × Str)} {line : List Str} {many : Nat} {x w : Str} {os : List Str} (h : ReasonOk ps line many x w os) : ∀ y ∈ os, y ∈ line := by
  rcases h with ⟨f, _, rfl, h, _⟩ | ⟨z, _, rfl, h, _⟩ | ⟨h, y, _, _, hy, _, _, ⟨_, z, rfl, hz, _⟩ | ⟨_, rfl⟩⟩
  · intro y hy
    rw [List.mem_singleton.mp hy]
    exact h
  · intro y hy
    rw [List.mem_singleton.mp hy]
    exact h
  · intro u hu
    rcases List.mem_cons.mp hu with z' | z'
    · rw [z']
      exact hy
    · rw [List.mem_singleton.mp z']
      exact hz
  · intro u hu
    rw [List.mem_singleton.mp hu]
    exact hy
/-! ### the deeds told are a history -/
section
variable {ps : List (Str × Str)} {stay : Nat → List Str} {sv : List Str}
theorem Way.len {m0 m : Nat} {row fin : List Str} {ds : List Deed} (h : Way ps stay sv m0 m row ds fin) : (sv.take m ++ row).Nodup → ds.length + fin.length + 2 * m0 = row.length + 2 * m := by
  induction h with
  | done row => exact fun _ => by simp
  | @go m row ds fin x hx hs t ih =>
    intro nd
    have := ih (nd_rem nd)
    have rl := rem_len (nd_right nd) hx.mem
    rw [List.length_cons]
    omega
  | @back m row ds fin y hy t ih =>
    intro nd
    rw [line_back hy] at nd
    have := ih nd
    rw [List.length_cons] at this
    rw [List.length_cons]
    omega
end
/-! ### promises -/
theorem good_words : Good "friend" ∧ Good "behind" ∧ Good "between" := by
  refine ⟨?_, ?_, ?_⟩ <;> (show PyData.strOk _ = true; decide +kernel)
theorem ReasonOk.good {ps : List (Str × Str)} {line : List Str} {many : Nat} {x w : Str} {os : List Str} (h : ReasonOk ps line many x w os) : Good w := by
  rcases h with ⟨f, rfl, _⟩ | ⟨z, rfl, _⟩ | ⟨h, y, rfl, _⟩
  · exact good_words.1
  · exact good_words.2.1
  · exact good_words.2.2
end Lk
set_option maxRecDepth 100000
set_option maxHeartbeats 4000000
namespace Lk
open PySem PySem.Spec PyProof.Rows L2
/-! ### set(ns), ns a list of ints, some of them twice -/
section
variable {P : Program} {w : World} {A : Around} {E : Value → Shared → Prop} {s : Shared}
end
section
variable {X : Cx}
end
end Lk
set_option maxRecDepth 100000
set_option maxHeartbeats 4000000
namespace Lk
open PySem PySem.Spec PyProof.Rows L2
/-! ### how many ways are left, at most -/
/-! ### histories begun -/
structure WE where
  T : Addr
  d : Addr
  t : Addr
  ds : List LD
  here : List Str
  m : Nat
def EntAt (H : Hp) (e : WE) : Prop := TupAt H e.T [.ref e.d, .ref e.t, .int (e.m : Nat)] ∧ TupAt H e.d (refsD e.ds) ∧ DeedsAt H e.ds ∧ TupAt H e.t (e.here.map V.str)
def EntsAt (H : Hp) (es : List WE) : Prop := ∀ e ∈ es, EntAt H e
theorem EntAt.same {H H' : Hp} {e : WE} (s : Same H H') (h : EntAt H e) : EntAt H' e := ⟨h.1.same s, h.2.1.same s, h.2.2.1.same s, h.2.2.2.same s⟩
theorem EntsAt.same {H H' : Hp} {es : List WE} (s : Same H H') (h : EntsAt H es) : EntsAt H' es := fun e he => (h e he).same s
theorem EntAt.upd_ {H : Hp} {l : Addr} {ys : List V} {o' : HO} {e : WE} (h : EntAt H e) (hl : H l = some (.lst ys)) : EntAt (upd H l o') e :=
  ⟨h.1.upd_ hl, h.2.1.upd_ hl, fun q hq => (h.2.2.1 q hq).upd_ hl, h.2.2.2.upd_ hl⟩
/-- what of the line's history has been gone through -/
structure EntOk (ps : List (Str × Str)) (olds gn st : List Str) (k : Nat) (e : WE) : Prop where
  len : e.ds.length = k
  go : goD ps (e.ds.map (·.2)) (olds, []) olds = some (e.here, gn.take e.m)
  le : e.m ≤ gn.length
  sub : e.here.Sublist ((gn ++ st).drop e.m)
def leftN (gn st : List Str) (e : WE) : Nat := (gn ++ st).length - e.m - e.here.length
section
variable {ps : List (Str × Str)} {olds gn st : List Str} {k : Nat} {e : WE}
theorem take_line {m : Nat} (h : m ≤ gn.length) : (gn ++ st).take m = gn.take m := List.take_append_of_le_length h
theorem EntOk.new (h : EntOk ps olds gn st k e) (nd : (gn ++ st).Nodup) {x : Str} (hx : x ∈ (gn ++ st).drop e.m) (nx : x ∉ e.here) : x ∉ olds ++ comers (e.ds.map (·.2)) := fun z => by
  have pm := go_perm _ _ _ _ h.go
  have : x ∈ comers (e.ds.map (·.2)) ++ ([] ++ olds) := by
    rcases List.mem_append.mp z with u | u
    · exact List.mem_append_right _ (by simpa using u)
    · exact List.mem_append_left _ u
  rcases List.mem_append.mp (pm.mem_iff.mpr this) with u | u
  · have u' : x ∈ (gn ++ st).take e.m := by rw [take_line h.le]; exact u
    have nd' := nd
    rw [← List.take_append_drop e.m (gn ++ st)] at nd'
    exact (List.nodup_append.mp nd').2.2 x u' x hx rfl
  · exact nx u
/-- somebody more comes -/
theorem EntOk.comes (h : EntOk ps olds gn st k e) (nd : (gn ++ st).Nodup) {x : Str} (hx : x ∈ (gn ++ st).drop e.m) (nx : x ∉ e.here) {T d t a : Addr} (hs : (comeTo ps e.here x).Sublist ((gn ++ st).drop e.m)) : EntOk ps olds gn st (k + 1) ⟨T, d, t, e.ds ++ [((a, some x) : LD)], comeTo ps e.here x, e.m⟩ := by
  refine ⟨by rw [List.length_append, h.len]; rfl, ?_, h.le, hs⟩
  show goD ps ((e.ds ++ [((a, some x) : LD)]).map (·.2)) (olds, []) olds = some (comeTo ps e.here x, gn.take e.m)
  rw [List.map_append]
  show goD ps (e.ds.map (·.2) ++ [some x]) (olds, []) olds = _
  rw [goD_snoc, h.go]
  show (if x ∈ olds ++ comers (e.ds.map (·.2)) then none else some (comeTo ps e.here x, gn.take e.m)) = _
  rw [if_neg (h.new nd hx nx)]
/-- how many can come -/
theorem EntOk.few (h : EntOk ps olds gn st k e) (nd : (gn ++ st).Nodup) : (((gn ++ st).drop e.m).filter fun x => !decide (x ∈ e.here)).length = leftN gn st e := by
  have ndd := nd.sublist (List.drop_sublist e.m (gn ++ st))
  have e1 := sub_filter h.sub ndd
  have p := (List.filter_append_perm (fun x => decide (x ∈ e.here)) ((gn ++ st).drop e.m)).length_eq
  rw [← e1, List.length_append, List.length_drop] at p
  unfold leftN
  omega
end
/-! ### long lists -/
section
variable {J : It} {n : Nat} {G : Hp → Prop} {Y : Nat → Hp → V → Hp → Prop} {g : TG} {tt : TT} {te : TE} {vs : List Nat} {σ : L2.St} {H1 : Hp} {D : Addr} {Qd : Hp → Prop}
end
/-! ### promises -/
abbrev LW := Addr × List LD
def WaysAt (H : Hp) (ws : List LW) : Prop := ∀ q ∈ ws, TupAt H q.1 (refsD q.2) ∧ DeedsAt H q.2
theorem WaysAt.same {H H' : Hp} {ws : List LW} (s : Same H H') (h : WaysAt H ws) : WaysAt H' ws := fun q hq => ⟨(h q hq).1.same s, (h q hq).2.same s⟩
end Lk
set_option maxRecDepth 100000
set_option maxHeartbeats 4000000
namespace Lk
open PySem PySem.Spec PyProof.Rows L2
/-! ### ways as data -/
section
variable {K : PySem.W.Frag} {H : Hp}
end
end Lk
set_option maxRecDepth 100000
set_option maxHeartbeats 4000000
namespace Lk
open PySem PySem.Spec PyProof.Rows L2
/-! ### who was ever there -/
def BeenAt (H : Hp) (d : Addr) (met : List Str) : Prop := ∃ kvs, H d = some (.dK kvs) ∧ kvs.length ≤ met.length ∧ ∀ y, (valV kvs (.inr y)).isSome = decide (y ∈ met)
theorem BeenAt.same {H H' : Hp} {d : Addr} {met : List Str} (s : Same H H') (h : BeenAt H d met) : BeenAt H' d met := by
  obtain ⟨kvs, h1, h2, h3⟩ := h
  exact ⟨kvs, s _ _ h1, h2, h3⟩
/-! ### promises -/
/-! ### one more is served, one more comes -/
/-! ### two tuples of texts -/
/-- a history told, or none -/
def TellAt (H : Hp) (T : Addr) (ps : List (Str × Str)) (olds gn st : List Str) : Prop :=
  (∃ (u : Addr) (ds : List LD), TupAt H T [.str "deeds", .ref u] ∧ H u = some (.lst (refsD ds)) ∧ DeedsAt H ds ∧ goD ps (ds.map (·.2)) (olds, []) olds = some (st, gn) ∧ olds.length + ds.length ≤ st.length + 2 * gn.length) ∨
  (∃ (p : Addr), TupAt H T [.str "none", .ref p])
theorem TellAt.same {H H' : Hp} {T : Addr} {ps : List (Str × Str)} {olds gn st : List Str} (s : Same H H') (h : TellAt H T ps olds gn st) : TellAt H' T ps olds gn st := by
  rcases h with ⟨u, ds, h1, h2, h3, h4⟩ | ⟨p, h1⟩
  · exact .inl ⟨u, ds, h1.same s, s _ _ h2, h3.same s, h4⟩
  · exact .inr ⟨p, h1.same s⟩
end Lk
set_option maxRecDepth 100000
set_option maxHeartbeats 4000000
namespace Lk
open PySem PySem.Spec PyProof.Rows L2
/-! ### promises -/
end Lk
set_option maxRecDepth 100000
set_option maxHeartbeats 4000000
namespace Lk
open PySem PySem.Spec PyProof.Rows L2
/-! ### all are served, each one alone in the row -/
section
variable {ps : List (Str × Str)} {pool : List Str}
end
end Lk
set_option maxRecDepth 100000
set_option maxHeartbeats 4000000
namespace Lk
open PySem PySem.Spec PyProof.Rows L2
/-! ### len(set(xs)), xs a list of texts, some of them twice -/
section
variable {P : Program} {w : World} {A : Around} {E : Value → Shared → Prop} {s : Shared}
theorem strs_loopD {R : Result → Shared → Prop} {I S : Addr} {fp wr : List Addr} {G : Array GenState → Array GenState → Prop} {n : Nat} {Pv : Nat → Value → Prop} {St : Nat → Shared → Prop}
    (W : WalksS P w A.in1 I fp wr G n Pv St) (nf : S ∉ fp) {xs : List Str} (en : xs.length = n) (few : ∀ us : List Str, us.Nodup → (∀ y ∈ us, y ∈ xs) → us.length + 1 < scanBound) (hv : ∀ i v, Pv i v → ∃ x t, xs[i]? = some x ∧ v = .str x t) :
    ∀ (m i : Nat) (s : Shared) (us : List Str), i + m = n → St i s → us.Nodup → (∀ y, y ∈ us ↔ y ∈ xs.take i) → s.heap.SetOf (PySem.strKind P w) S (fun y => decide (y ∈ us)) us.length →
      (∀ (s' : Shared) (us : List Str), Moved (S :: wr) G s s' → us.Nodup → (∀ y, y ∈ us ↔ y ∈ xs) → s'.heap.SetOf (PySem.strKind P w) S (fun y => decide (y ∈ us)) us.length → R (.ok (.ret .none)) s') →
      codeAny (model P w) A (.builtin "set.update.loop" ⟨[.ref S, .ref I], []⟩) R s := by
  have nw : S ∉ wr := fun h => nf (W.sub _ h)
  have more : ∀ b ∈ wr, b ∈ S :: wr := fun b => List.mem_cons_of_mem _
  have stays : ∀ {s s' : Shared} {T : Str → Bool} {c : Nat}, Moved wr G s s' → s.heap.SetOf (PySem.strKind P w) S T c → s'.heap.SetOf (PySem.strKind P w) S T c := fun hm ⟨o, es, ep, t, ho, rest⟩ => ⟨o, es, ep, t, hm.heap S _ nw ho, rest⟩
  intro m
  induction m with
  | zero =>
    intro i s us e st nu mu so fin
    have ei : i = n := by omega
    subst ei
    refine codeAny_builtin PyProof.Rows.F.entry_set_update_loop ?_
    rw [Around.under_plainId PyProof.Rows.F.plain_set_update_loop _]
    show wpAny _ A.in1 (pyNext (.ref I) >>= _) _ _ s
    refine wpAny_bind (W.done s _ _ st fun s' hm => ?_)
    rw [← en, List.take_length] at mu
    exact wpAny_pure (fin s' us (hm.mono more) nu mu (stays hm so))
  | succ m ih =>
    intro i s us e st nu mu so fin
    refine codeAny_builtin PyProof.Rows.F.entry_set_update_loop ?_
    rw [Around.under_plainId PyProof.Rows.F.plain_set_update_loop _]
    show wpAny _ A.in1 (pyNext (.ref I) >>= _) _ _ s
    refine wpAny_bind (W.item i s _ _ (by omega) st fun v s' hP st' hm => ?_)
    obtain ⟨x, t, hx, rfl⟩ := hv i v hP
    have so' := stays hm so
    have fw : us.length + 1 < scanBound := few us nu fun y hy => List.mem_of_mem_take ((mu y).mp hy)
    show wpAny _ A.in1 (holding [Value.str x t] (setAdd S (.str x t)) >>= _) _ _ s'
    refine wpAny_bind (wpAny_holding ?_)
    unfold setAdd
    refine wpAny_holding (wpAny_bind ((PySem.strKind P w).pyHash (k := x) (strKind_is _ _ _ _) ?_))
    refine wpAny_setAddHashed_of (knd := PySem.strKind P w) (s := { s' with toks := s'.toks + 1 }) (strKind_is _ _ _ _) rfl so' fw fun h' sb so2 => ?_
    obtain ⟨us', nu', mu', so3⟩ : ∃ us' : List Str, us'.Nodup ∧ (∀ y, y ∈ us' ↔ y ∈ xs.take (i + 1)) ∧ h'.SetOf (PySem.strKind P w) S (fun y => decide (y ∈ us')) us'.length := by
      have tk : ∀ y, y ∈ xs.take (i + 1) ↔ y ∈ us ∨ y = x := fun y => by
        rw [List.take_add_one, hx, List.mem_append, ← mu y]
        simp
      by_cases c : x ∈ us
      · refine ⟨us, nu, fun y => ?_, SetOf_congr so2 (fun y => ?_) (by rw [decide_eq_true c]; rfl)⟩
        · rw [tk y]
          exact ⟨.inl, fun z => z.elim id fun z => z ▸ c⟩
        · by_cases c2 : y = x
          · subst c2
            simp [c]
          · simp [c2]
      · refine ⟨us ++ [x], ?_, fun y => ?_, SetOf_congr so2 (fun y => ?_) (by rw [decide_eq_false c, List.length_append]; rfl)⟩
        · rw [List.nodup_append]
          refine ⟨nu, List.nodup_cons.mpr ⟨fun h => (nomatch h), List.nodup_nil⟩, fun a ha b hb e => c ?_⟩
          rw [← List.mem_singleton.mp hb, ← e]
          exact ha
        · rw [tk y, List.mem_append, List.mem_singleton]
        · by_cases c2 : y = x
          · subst c2
            simp
          · simp [c2]
    refine wpAny_pure ⟨plainId_quiet PyProof.Rows.F.plain_set_update_loop _, ih (i + 1) _ us' (by omega) (W.frame _ s' _ _ st' (Nat.le_succ _) fun b hb o z => ?_) nu' mu' so3 fun s2 u2 hm2 n2 m2 so4 => ?_⟩
    · have nb : b ≠ S := fun q => nf (q ▸ hb)
      exact (sb.2 b nb).trans z
    · refine fin s2 u2 (Moved.trans W.gtrans ((hm.mono more).then_heap (Nat.le_succ _) fun b o hb z => ?_) hm2) n2 m2 so4
      have nb : b ≠ S := fun q => hb (q ▸ List.mem_cons_self)
      exact (sb.2 b nb).trans z
theorem set_strsD {l : Addr} {its : List Value} {xs : List Str} {Q : Value → Shared → Prop} (hh : A.handled = none) (hl : s.heap.IsList l its.toArray) (hi : PyProof.Rows.StrsAre its xs) (few : ∀ us : List Str, us.Nodup → (∀ y ∈ us, y ∈ xs) → us.length + 1 < scanBound)
    (h : ∀ (h' : Heap) (tk : Nat) (us : List Str), us.Nodup → (∀ y, y ∈ us ↔ y ∈ xs) → h'.SetOf (PySem.strKind P w) s.heap.objs.size (fun y => decide (y ∈ us)) us.length → (∀ b o, s.heap.get? b = some o → h'.get? b = some o) → Q (.ref s.heap.objs.size) { s with heap := h', toks := tk }) :
    wpAny (model P w) A (call (.type "set") [.ref l]) Q E s := by
  obtain ⟨c, tl, hmro⟩ := PySem.F.called_set.mro
  have k1 := PySem.F.called_set.made
  have k2 := PySem.F.called_set.sub
  refine wpAny_call (codeAny_of_tree (show wpAny _ _ (callAny (.type "set") _) _ _ _ from wpAny_pure ⟨Code.quiet_builtin _ (by decide +kernel), codeAny_builtin PySem.F.entry_type_call ?_⟩))
  rw [Around.under_plain (weight_type_call_type "set" [.ref l] []) rfl]
  have k3 := PySem.F.called_set.notType
  have k4 := PySem.F.called_set.canCreate
  have k5 := PySem.F.typeCall_set_1 (.ref l)
  repeat (any_goals (first | assumption | wp_step))
  refine codeAny_mono (code_set_new_1 (.ref l) (E := E) (Q₁ := fun obj s1 => ∃ led : Bool, obj = .ref s.heap.objs.size ∧ s1 = { s with heap := s.heap.push (setOb led) }) fun led => ⟨led, rfl, rfl⟩) fun r s1 hr => ?_
  match r, hr with
  | .error e, hr => exact hr
  | .ok .next, hr => exact hr.elim
  | .ok .brk, hr => exact hr.elim
  | .ok .cont, hr => exact hr.elim
  | .ok (.ret obj), hr =>
    obtain ⟨led, rfl, rfl⟩ := hr
    have gS : (s.heap.push (setOb led)).get? s.heap.objs.size = some (setOb led) := Heap.get?_push_size _ rfl
    have tS : Shared.TypeIs { s with heap := s.heap.push (setOb led) } (.ref s.heap.objs.size) "set" := ⟨_, gS, rfl⟩
    have k6 := PySem.F.called_set.init.lookup
    have k7 := PySem.F.called_set.init.bind (.ref s.heap.objs.size)
    repeat (any_goals (first | assumption | wp_step))
    refine codeAny_mono (codeAny_call_builtin (R := wants (fun r s2 => r = .none ∧ ∃ h' tk, s2 = { s with heap := h', toks := tk } ∧ ∃ us : List Str, us.Nodup ∧ (∀ y, y ∈ us ↔ y ∈ xs) ∧ h'.SetOf (PySem.strKind P w) s.heap.objs.size (fun y => decide (y ∈ us)) us.length ∧ (∀ b o, s.heap.get? b = some o → h'.get? b = some o)) E)
      PySem.F.called_set.init.plain PySem.F.entry_set_init (check_set_init_1 tS ?_)) fun r2 s2 hr2 => ?_
    · obtain ⟨⟨oc, od, oa, os⟩, lo, lc, nl, ld⟩ := hl
      simp only at lc ld
      subst lc ld
      have lt : l < s.heap.objs.size := Heap.lt_size lo
      have lo1 : (s.heap.push (setOb led)).get? l = some { cls := .type "list", dict := od, data := .seq its.toArray nl, slots := os } := Heap.get?_push_of_some _ lo
      have k8 := PySem.F.sub_list_set
      have k9 := PySem.F.sub_list_frozenset
      have k10 : (Value.type "list" == Value.type "dict") = false := by decide
      have l1 : (s.heap.push (setOb led)).IsList l its.toArray := ⟨_, lo1, rfl, nl, rfl⟩
      unfold Builtin.«set.__init__» noKeywords Builtin.Frozenset.updateFrom
      generalize hP : pyIter = Pi
      wp_walk
      subst hP
      refine wpAny_pyIter_list l1 (wpAny_bind (wpAny_runValue ?_))
      have sz : (s.heap.push (setOb led)).objs.size = s.heap.objs.size + 1 := Heap.size_push ..
      have ni : l ≠ (s.heap.push (setOb led)).objs.size := by rw [sz]; exact Nat.ne_of_lt (Nat.lt_succ_of_lt lt)
      have h3 : A.in1.in1.in1.handled = none := by simp [hh]
      have nf : s.heap.objs.size ∉ [(s.heap.push (setOb led)).objs.size, l] := fun z => by
        rcases List.mem_cons.mp z with z | z
        · rw [sz] at z
          exact Nat.ne_of_lt (Nat.lt_succ_self _) z
        · exact Nat.ne_of_gt lt (List.mem_singleton.mp z)
      have el : xs.length = its.toArray.size := by rw [← StrsAre.len_eq hi, List.size_toArray]
      refine strs_loopD ((Walks.list h3 _ l ni its.toArray).toS) nf el few (fun i v hv => ?_) its.toArray.size 0 _ [] (Nat.zero_add _) ⟨⟨_, Heap.get?_push_size _ rfl, rfl, rfl⟩, l1.push _⟩ List.nodup_nil (fun y => by simp) ?_ fun s' us hm nu mu so => ?_
      · obtain ⟨t, e⟩ := SS.strs_at hi i v (by rw [← Array.getElem?_toList] at hv; simpa using hv)
        have li : i < xs.length := by
          have := (Array.getElem?_eq_some_iff.mp hv).1
          omega
        exact ⟨xs.getD i Str.empty, t, by rw [List.getD_eq_getElem?_getD, List.getElem?_eq_getElem li]; rfl, e⟩
      · have g2 := Heap.get?_push_of_some { cls := .type "list_iterator", data := .fields #[.ref l, .int 0 0] } gS
        exact SetOf_congr ((setObjOf_fresh (knd := PySem.strKind P w) led).setOf g2 (by unfold scanBound; omega)) (fun _ => rfl) rfl
      · obtain ⟨h', g', d', tk', os'⟩ := s'
        obtain rfl : g' = s.gens := hm.gens
        obtain rfl : d' = s.drawn := hm.drawn
        obtain rfl : os' = s.os := hm.os
        refine wpAny_pure (show wpAny _ _ (ret Value.none) _ _ _ from wpAny_pure ⟨rfl, h', tk', rfl, us, nu, mu, so, fun b o z => ?_⟩)
        have bl := Heap.lt_size z
        refine hm.heap b o (fun q => ?_) (Heap.get?_push_of_some _ (Heap.get?_push_of_some _ z))
        rcases List.mem_cons.mp q with q | q
        · exact Nat.ne_of_lt bl q
        · have := List.mem_singleton.mp q
          rw [sz] at this
          exact Nat.ne_of_lt (Nat.lt_succ_of_lt bl) this
    · match r2, hr2 with
      | .error e, hr2 => exact hr2
      | .ok .next, hr2 => exact hr2.elim
      | .ok .brk, hr2 => exact hr2.elim
      | .ok .cont, hr2 => exact hr2.elim
      | .ok (.ret r), hr2 =>
        obtain ⟨rfl, h', tk, rfl, us, nu, mu, so, kp⟩ := hr2
        repeat (any_goals (first | assumption | wp_step))
        exact h _ _ us nu mu so kp
end
theorem nd_lenS : ∀ (l : List Str) (m : List Str), l.Nodup → (∀ x ∈ l, x ∈ m) → l.length ≤ m.length
  | [], _, _, _ => Nat.zero_le _
  | x :: l, m, h, s => by
    obtain ⟨n1, n2⟩ := List.nodup_cons.mp h
    obtain ⟨a, b, e⟩ := List.append_of_mem (s x (List.mem_cons_self ..))
    have ih := nd_lenS l (a ++ b) n2 fun y hy => by
      have ne : y ≠ x := fun z => n1 (z ▸ hy)
      have := s y (List.mem_cons_of_mem _ hy)
      rw [e] at this
      rcases List.mem_append.mp this with z | z
      · exact List.mem_append_left _ z
      · rcases List.mem_cons.mp z with z | z
        · exact absurd z ne
        · exact List.mem_append_right _ z
    rw [List.length_append] at ih
    rw [e, List.length_append, List.length_cons, List.length_cons]
    omega
section
variable {X : Cx}
def tLenStrsD (K : PySem.W.Frag) (ta : TE) : TE := fun σ H Q => ta σ H fun x H1 => ∃ (l : Addr) (xs : List Str), x = .ref l ∧ H1 l = some (.lst (xs.map V.str)) ∧ xs.length ≤ 100 ∧ ∀ us : List Str, us.Nodup → (∀ y, y ∈ us ↔ y ∈ xs) → Q (.int us.length) H1
theorem pe_lenStrsD {a : Expr} {ta : TE} {p p2 q pos : Pos} (hc : X.calm = true) (hg : Gl X "len") (hm : X.mg "len" = none) (hg2 : Gl X "set") (hm2 : X.mg "set" = none) (ha : PE X a ta)
    (na : starEach [a] X.env = (false, eval a X.env) :: starEach [] X.env := by rfl) : PE X (.Call (.Name "len" p) [.Call (.Name "set" p2) [a] [] q] [] pos) (tLenStrsD X.K ta) := by
  refine ⟨fun pins s σ H Q I h => Call_ (ld_blt I hg hm PySem.boot_len (PyProof.Rows.callWith_builtin1 (PyProof.Rows.args_cons (Call_ (ld_blt I hg2 hm2 PyProof.Rows.boot_set ?_)) rfl) rfl rfl))⟩
  refine PyProof.Rows.callWith_type1 (PyProof.Rows.args_cons (thn (ha.run pins s σ H _ I h) fun v s1 ⟨x, H1, I1, r1, q1⟩ => PyProof.Rows.args_nil ?_) na) na rfl
  obtain ⟨l, xs, rfl, e, few, q1⟩ := q1
  cases r1
  obtain ⟨its, r, pl, _⟩ := I1.list (.inl (.inl e))
  refine set_strsD (xs := xs) (I1.ok.hd hc) pl.isList (by simpa using strsAre_of r) (fun us nu su => by
    have := nd_lenS us xs nu su
    unfold scanBound
    omega) fun h' tk us nu mu so kp => PyProof.Rows.args_nil ?_
  have lu : us.length ≤ 100 := Nat.le_trans (nd_lenS us xs nu fun y hy => (mu y).mp hy) few
  obtain ⟨o, es, ep, t, ho, ex, hd, _, _, _, hf, hn⟩ := so
  exact call_len_set ho ex hd hf (by rw [hn] <;> omega) ⟨.int us.length, H1, (I1.kept fun b o z => kp b o z).tok _, ⟨_, by rw [hn]⟩, q1 us nu mu⟩
end
/-! ### a row of which nobody is served yet -/
/-! ### papers that show nothing -/
/-- a text or a pair: no reason -/
def NoClause (H : Hp) (v : V) : Prop := (∃ x : Str, v = .str x) ∨ ∃ (t : Addr) (x y : Str), v = .ref t ∧ H t = some (.tup [.str x, .str y])
theorem NoClause.same {H H' : Hp} {v : V} (s : Same H H') (h : NoClause H v) : NoClause H' v := h.elim .inl fun ⟨t, x, y, e, h⟩ => .inr ⟨t, x, y, e, s _ _ h⟩
end Lk
set_option maxRecDepth 100000
set_option maxHeartbeats 4000000
namespace Lk
open PySem PySem.Spec PyProof.Rows L2
/-! ### led back, and what was done on the way -/
section
variable {ps : List (Str × Str)} {olds gn st ins1 ins2 : List Str} {name : Str} {many : Nat} {ds1 ds2 : List Deed}
theorem Way.coming {stay : Nat → List Str} {sv : List Str} {m0 m : Nat} {row fin : List Str} {ds : List Deed} (h : Way ps stay sv m0 m row ds fin) {x : Str} : some x ∈ ds → x ∈ sv.take m ++ row := by
  induction h with
  | done row => exact fun h => nomatch h
  | @go m row ds fin y hy hs t ih =>
    intro hm
    rcases List.mem_cons.mp hm with z | z
    · cases z
      exact List.mem_append_right _ hy.mem
    · rcases List.mem_append.mp (ih z) with w | w
      · exact List.mem_append_left _ w
      · exact List.mem_append_right _ (mem_rem.mp w).1
  | @back m row ds fin y h t ih =>
    intro hm
    rw [line_back h]
    rcases List.mem_cons.mp hm with z | z
    · cases z
    · exact ih z
end
/-- histories in a list -/
abbrev LH := Addr × List LD
def HistsAt (ps : List (Str × Str)) (olds gn st : List Str) (H : Hp) (ws : List LH) : Prop := ∀ q ∈ ws, H q.1 = some (.lst (refsD q.2)) ∧ DeedsAt H q.2 ∧ goD ps (q.2.map (·.2)) (olds, []) olds = some (st, gn)
theorem HistsAt.oth {ps : List (Str × Str)} {olds gn st : List Str} {H H' : Hp} {b : Addr} {ws : List LH} (o : Oth b H H') (hb : IsBox H b) (h : HistsAt ps olds gn st H ws) : HistsAt ps olds gn st H' ws := fun q hq => by
  obtain ⟨h1, h2, h3⟩ := h q hq
  exact ⟨o _ _ (hb.ne_refs (xs := q.2.map (·.1)) (by rw [List.map_map]; exact h1)) h1, fun d hd => (h2 d hd).oth o hb, h3⟩
theorem HistsAt.same {ps : List (Str × Str)} {olds gn st : List Str} {H H' : Hp} {ws : List LH} (s : Same H H') (h : HistsAt ps olds gn st H ws) : HistsAt ps olds gn st H' ws := fun q hq => by
  obtain ⟨h1, h2, h3⟩ := h q hq
  exact ⟨s _ _ h1, fun d hd => (h2 d hd).same s, h3⟩
end Lk
set_option maxRecDepth 100000
set_option maxHeartbeats 4000000
namespace Lk
open PySem PySem.Spec PyProof.Rows L2
/-! ### right papers show that nobody comes there -/
theorem ReasonOk.nd {ps : List (Str × Str)} {line : List Str} {many : Nat} {x w : Str} {os : List Str} (h : ReasonOk ps line many x w os) : os.Nodup ∧ os.length ≤ 2 := by
  rcases h with ⟨f, _, rfl, _⟩ | ⟨z, _, rfl, _⟩ | ⟨h, y, _, _, _, _, ly, ⟨_, z, rfl, _, lz⟩ | ⟨_, rfl⟩⟩
  · simp
  · simp
  · refine ⟨List.nodup_cons.mpr ⟨fun z => ?_, List.nodup_cons.mpr ⟨(fun z => nomatch z), List.nodup_nil⟩⟩, Nat.le_refl _⟩
    rw [List.mem_singleton.mp z] at ly
    omega
  · simp
end Lk
set_option maxRecDepth 100000
set_option maxHeartbeats 4000000
namespace Lk
open PySem PySem.Spec PyProof.Rows L2
/-! ### calls that may raise, in a try -/
section
variable {X : Cx} {CX : CXT} {k n m : Nat} {f : Addr} {fd : FuncData} {ps ks : List Str} {sp : Sp} {E : L2.St → XK} {x : Str} {p pos : Pos} {kws : List Keyword} {tk t : TA} {g : List Value → List Value → List Value} {gV : List V → List V → List V} {e : Expr} {es : List Expr}
end
section
variable {X : Cx} {k m n : Nat} {x kw : Str} {ps : List Str} {sp : Sp} {p pos : Pos} {e : Expr} {es : List Expr} {t tk : TA} {kws : List Keyword} {W : WX}
end
/-! ### the class of a bad deed -/
theorem FnOk.or {P : Program} {w : World} {K : PySem.W.Frag} {mg : Str → Option Value} {base : Heap} {CX : CXT} {k : Nat} {f : Addr} {fd : FuncData} {ps : List Str} {s1 s2 : Sp} (F1 : FnOk P w K mg base CX k f fd ps s1) (F2 : FnOk P w K mg base CX k f fd ps s2) : FnOk P w K mg base CX k f fd ps (fun vs H Q E => s1 vs H Q E ∨ s2 vs H Q E) :=
  ⟨fun vs H Q E h => h.elim (F1.len vs H Q E) (F2.len vs H Q E), fun A out s H ar us vs Q E z e b v m => m.elim (F1.run A out s H ar us vs Q E z e b v) (F2.run A out s H ar us vs Q E z e b v)⟩
end Lk
set_option maxRecDepth 100000
set_option maxHeartbeats 4000000
/-! own exception classes right over a built-in one, with an __init__ of their own -/
namespace Lk
open PySem PySem.Spec PySem.W PySem.Calls PyProof.Rows PySem.HandSPX Builtin Builtin.ObjectAttr
section
variable {prog : Program} {w : World} {A : Around} {E : Value → Shared → Prop} {R : Result → Shared → Prop} {hp : Heap} {g : Array GenState} {d : Drawn} {t : Nat} {os : OsState} {T newId initId : String} {K : Frag} {name : Str} {tk : Tok} {v : Value} {x C : Addr} {fv : Array Value} {cd : ClassData}
end
end Lk

namespace Lk
open PySem PySem.Spec PyProof.Rows L2
section
variable {X : Cx} {pins : List (Addr × Obj)} {σ : L2.St} {H : Hp} {s : Shared} {a C dx : Addr} {f : Str} {y : V} {u : Value} {fs : List (Str × V)} {Q : Unit → Shared → Prop} {E : Value → Shared → Prop} {A : Around} {T newId initId : String}
end
/-! ### readings -/
section
variable {X : Cx} {o e : Expr} {es : List Expr} {to te : TE} {ta : TA} {f : Str} {p p' p1 p2 pos : Pos} {T newId initId : String} {tn : Str}
section
variable {CX : CXT} {x : Str} {C fI : Addr} {k : Nat} {fd : FuncData} {ps : List Str} {sp : Sp}
end
end
end Lk

namespace Lk
open PySem PySem.Spec PyProof.Rows L2
/-- a class of exceptions as it is named -/
structure ClsK (K : PySem.W.Frag) (mg : Str → Option Value) (x : Str) (C : Addr) : Prop where
  g : mg x = some (.ref C)
  is : PySem.W.isClsIn K C = true
  ty : PySem.W.typeIn K (.ref C) = some (.type "type")
  ex : PySem.W.subIn K (.ref C) (.type "BaseException") = some true
  self : PySem.W.subIn K (.ref C) (.ref C) = some true
  non : PySem.W.subIn K (.type "NoneType") (.ref C) = some false
section
variable {K : PySem.W.Frag} {mg : Str → Option Value} {x y tn : Str} {C D fI : Addr} {T newId initId : String} {b : Bool}
theorem ClsK.kit {t : Value} (k : ClsK K mg x C) (h : PySem.W.subIn K t (.ref C) = some b) : PySem.W.kitCls K t (.ref C) = some b := by
  have c : (PySem.W.clsIn K C).isSome = true := k.is
  unfold PySem.W.kitCls
  show (if ((PySem.W.clsIn K C).isSome && PySem.W.typeIn K (.ref C) == some (.type "type")) = true then PySem.W.subIn K t (.ref C) else none) = some b
  rw [if_pos (by rw [c, k.ty]; rfl)]
  exact h
/-- isinstance of the class D, C asked -/
theorem ClsK.one (k : ClsK K mg x C) (h : PySem.W.subIn K (.ref D) (.ref C) = some b) : PySem.W.kitOne K (.ref D) (.ref C) = some b := by
  unfold PySem.W.kitOne
  by_cases e : D = C
  · subst e
    rw [if_pos (by simp)]
    rw [k.self] at h
    exact h
  · rw [if_neg (by simpa using e)]
    exact k.kit h
theorem ClsK.none (k : ClsK K mg x C) : PySem.W.kitOne K (.type "NoneType") (.ref C) = some false := by
  unfold PySem.W.kitOne
  rw [if_neg (by simp)]
  exact k.kit k.non
end
end Lk
namespace Lk
open PySem PySem.Spec PyProof.Rows L2
end Lk
set_option maxRecDepth 100000
set_option maxHeartbeats 4000000
namespace Lk
open PySem PySem.Spec PySem.Calls PyProof.Rows PySem.W
section
variable {M : Model} {K : Frag} {h : Heap} {A : Around} {E : Value → Shared → Prop}
end
end Lk
namespace Lk
open PySem PySem.Spec PyProof.Rows L2
/-- a caught exception, held as a value -/
def ExV (cls : Value) (d : Option Addr) (a : Addr) : HO := .ext fun h => ∃ (oe : Obj) (vs : Array Value), h.get? a = some oe ∧ Zc cls d oe ∧ oe.data = .fields vs
section
variable {X : Cx} {pins : List (Addr × Obj)} {σ : L2.St} {H : Hp} {s : Shared}
end
/-- the names of a tuple of classes -/
inductive TupNames (X : Cx) : List Expr → List Value → Prop
  | nil : TupNames X [] []
  | cons {x : Str} {c : Value} {np : Pos} {es : List Expr} {cs : List Value} (h : Names X x c) (r : TupNames X es cs) : TupNames X (.Name x np :: es) (c :: cs)
theorem TupNames.run {X : Cx} {es : List Expr} {cs : List Value} (T : TupNames X es cs) {a : Addr} {pn : List (Addr × Obj)} {σ : L2.St} {H : Hp} {s : Shared} {tpos : Pos} (S : Inv (X.suite a pn) [] σ H s) {E : Value → Shared → Prop} : ∀ {Q : List Value → Shared → Prop}, Q cs s →
    wpAny (model X.prog X.w) (X.A.mark (some (.ref a))) (spliced (backTo tpos (starEach es X.env))) Q E s := by
  induction T with
  | nil => intro Q q; exact wpAny_items_nil q
  | cons hc r ih =>
    intro Q q
    refine wpAny_items_cons ?_
    obtain ⟨hg, hdbg, hm | ⟨hm, hv, hnn⟩⟩ := hc
    · exact ld_glob (X := X.suite a pn) S hg hm (ih q) hdbg
    · exact ld_blt (X := X.suite a pn) S hg hm hv (ih q) hnn hdbg
theorem TupNames.length {X : Cx} {es : List Expr} {cs : List Value} (T : TupNames X es cs) : cs.length = es.length := by
  induction T with
  | nil => rfl
  | cons _ _ ih => rw [List.length_cons, List.length_cons, ih]
section
variable {X : Cx} {n : Str} {cs : List Value} {es : List Expr} {i kk : Nat} {body suite : List Stmt} {b₀ : Stmt} {tpos pos pos' : Pos} {tb : WX → TS} {ts : Addr → Value → Option Addr → TS} {Wout : WX}
end
end Lk
namespace Lk
open PySem PySem.Spec PySem.Calls PySem.W
section
variable {K : Frag} {D : Addr} {od : Option Obj}
end
end Lk
namespace Lk
open PySem PySem.Spec PyProof.Rows L2
/-- an exception that was caught stands at a, its fields (none, or those of its dict) -/
def Held (H : Hp) (a D : Addr) (fs : List (Str × V)) : Prop := ∃ d, H a = some (ExV (.ref D) d a) ∧ ((d = none ∧ fs = []) ∨ ∃ dd, d = some dd ∧ H dd = some (.xd fs))
theorem Held.look {P : Program} {w : World} {H : Hp} {h : Heap} {a D : Addr} {fs : List (Str × V)} (x : Held H a D fs) (ok : HOk P w H h) : ∃ oe od, PySem.W.InstAt h a oe D od ∧ ((od = none ∧ fs = []) ∨ ∃ (o : Obj) (mA : Str → Option Value), od = some o ∧ (∀ name, PySem.W.lookIn name o = some (mA name)) ∧ ∀ f, RelO (fs.lookup f) (mA f)) := by
  obtain ⟨d, ha, hd⟩ := x
  obtain ⟨⟨oe, vs, e, ⟨z1, z2⟩, hv⟩, _⟩ := (show ObjOk P w H h a (ExV (.ref D) d a) from ok a _ ha)
  have nc : PySem.W.notCls oe = true := by unfold PySem.W.notCls; rw [hv]
  rcases hd with ⟨rfl, hf⟩ | ⟨dd, rfl, hx⟩
  · exact ⟨oe, none, ⟨e, z1, nc, by rw [z2]; trivial⟩, .inl ⟨rfl, hf⟩⟩
  · obtain ⟨mA, n, r⟩ := (show ObjOk P w H h dd (.xd fs) from ok dd _ hx)
    obtain ⟨o, ho, hl⟩ := lookIn_ns n
    exact ⟨oe, some o, ⟨e, z1, nc, by rw [z2]; exact ho⟩, .inr ⟨o, mA, rfl, hl, r⟩⟩
section
variable {X : Cx}
end
end Lk
namespace Lk
open PySem PySem.Spec PyProof.Rows L2
theorem Held.same {H H' : Hp} {a D : Addr} {fs : List (Str × V)} (s : Same H H') (x : Held H a D fs) : Held H' a D fs := by
  obtain ⟨d, ha, hd⟩ := x
  exact ⟨d, s _ _ ha, hd.imp id fun ⟨dd, e, q⟩ => ⟨dd, e, s _ _ q⟩⟩
end Lk

namespace Lk
open PySem PySem.Spec PyProof.Rows L2
section
variable {X : Cx} {k m : Nat} {x : Str} {ps : List Str} {sp : Sp} {p pos : Pos} {e : Expr} {es : List Expr} {t : TA} {W : WX}
end
end Lk
set_option maxRecDepth 100000
set_option maxHeartbeats 4000000
namespace Lk
open PySem PySem.Spec PyProof.Rows L2

/-! ### texts in order -/
theorem risingS_pw : ∀ (l : List Str) (p : Str), risingS p l = true → (p :: l).Pairwise (fun a b => tlx a ≤ tlx b)
  | [], p, _ => List.pairwise_singleton _ _
  | x :: r, p, h => by
    have h' : (!ltCps x.cps.toList p.cps.toList && risingS x r) = true := h
    rw [Bool.and_eq_true] at h'
    have ih := risingS_pw r x h'.2
    have px : tlx p ≤ tlx x := by
      have e := h'.1
      rw [ltCps_eq, Bool.not_eq_true', decide_eq_false_iff_not] at e
      exact List.not_lt.mp e
    refine List.pairwise_cons.mpr ⟨fun y hy => ?_, ih⟩
    rcases List.mem_cons.mp hy with rfl | hy
    · exact px
    · exact List.le_trans px (List.rel_of_pairwise_cons ih hy)
theorem sortedS_pw : ∀ {l : List Str}, sortedS l = true → l.Pairwise (fun a b => tlx a ≤ tlx b)
  | [], _ => List.Pairwise.nil
  | x :: r, h => risingS_pw r x h
theorem sortedS_uniq {xs ys : List Str} (p : xs.Perm ys) (hx : sortedS xs = true) (hy : sortedS ys = true) : xs = ys :=
  List.Perm.eq_of_pairwise (le := fun a b => tlx a ≤ tlx b) (fun a b _ _ h1 h2 => str_ext (List.le_antisymm h1 h2)) (sortedS_pw hx) (sortedS_pw hy) p

/-! ### a dict that is walked where it is made -/
section
variable {X : Cx}
def rListOf (K : PySem.W.Frag) : List V → Hp → VK → Prop := fun xs H Q => ∃ p ys, xs = [.ref p] ∧ (SqL K H p ys ∨ SqT K H p ys) ∧ ∀ l, H l = none → Q (.ref l) (upd H l (.lst ys))
theorem call_listN : CallR X (.type "list") (rListOf X.K) := call_list_of
end

/-! ### friends, their pairs tuples or lists -/
def PairX (H : Hp) (bs : List B3) : Prop := (∀ b ∈ bs, H b.1 = some (.tup [.str b.2.1, .str b.2.2])) ∨ ∀ b ∈ bs, H b.1 = some (.lst [.str b.2.1, .str b.2.2])
theorem PairX.same {H H' : Hp} {bs : List B3} (s : Same H H') (h : PairX H bs) : PairX H' bs := h.elim (fun e => .inl fun b hb => s _ _ (e b hb)) (fun e => .inr fun b hb => s _ _ (e b hb))
/-- those whom a dict has beside one -/
def other1 (who : Str) (k : List Key) : Option Str := match k with
  | [Sum.inr a, Sum.inr b] => if a = who then some b else none
  | _ => none
def others (who : Str) (kvs : List (List Key × V)) : List Str := kvs.filterMap fun e => other1 who e.1
theorem ofpool_mem {pool : List Str} {ps : List (Str × Str)} (h : OfPool pool ps) {x y : Str} (e : frd ps x y = true) : x ∈ pool ∧ y ∈ pool := by
  have key : ∀ u v : Str, (u, v) ∈ ps → u ∈ pool ∧ v ∈ pool := fun u v huv => by
    obtain ⟨m, q, hm, hq, _, e⟩ := h _ huv
    cases e
    rcases lmin_or m q with ⟨e1, e2⟩ | ⟨e1, e2⟩
    · rw [e1, e2]
      exact ⟨hm, hq⟩
    · rw [e1, e2]
      exact ⟨hq, hm⟩
  rcases of_decide_eq_true e with e | e
  · exact key _ _ e
  · exact (key _ _ e).symm
theorem OfPool.fit {pool : List Str} {ps : List (Str × Str)} (h : OfPool pool ps) (ok : ∀ x ∈ pool, NameOk x) : ∀ p ∈ ps, (Good p.1 ∧ p.1.length ≤ 8) ∧ Good p.2 ∧ p.2.length ≤ 8 := fun p hp => by
  obtain ⟨h1, h2⟩ := ofpool_mem h (x := p.1) (y := p.2) (decide_eq_true (.inl hp))
  exact ⟨⟨(ok _ h1).good, (ok _ h1).len⟩, (ok _ h2).good, (ok _ h2).len⟩
/-! ### promises -/
/-! ### names of one stem -/
end Lk
set_option maxRecDepth 100000
set_option maxHeartbeats 4000000
namespace Lk
open PySem PySem.Spec PyProof.Rows L2
/-! ### pairs of friends, each once -/
def OfN (pool : List Str) (ps : List (Str × Str)) (i j : Nat) : Prop := ps.Nodup ∧ ∀ p ∈ ps, ∃ a c m n, c < a ∧ (a < i ∨ a = i ∧ c < j) ∧ pool[a]? = some m ∧ pool[c]? = some n ∧ p = (lmin m n, lmax m n)
theorem OfN.nil {pool : List Str} {i j : Nat} : OfN pool [] i j := ⟨List.nodup_nil, fun _ h => nomatch h⟩
theorem OfN.step {pool : List Str} {ps : List (Str × Str)} {i j : Nat} (h : OfN pool ps i j) : OfN pool ps i (j + 1) := ⟨h.1, fun p hp => by
  obtain ⟨a, c, m, n, h1, h2, h3⟩ := h.2 p hp
  exact ⟨a, c, m, n, h1, by omega, h3⟩⟩
theorem OfN.next {pool : List Str} {ps : List (Str × Str)} {i : Nat} (h : OfN pool ps i i) : OfN pool ps (i + 1) 0 := ⟨h.1, fun p hp => by
  obtain ⟨a, c, m, n, h1, h2, h3⟩ := h.2 p hp
  exact ⟨a, c, m, n, h1, by omega, h3⟩⟩
theorem mm_cases (m n : Str) : (lmin m n = m ∧ lmax m n = n) ∨ (lmin m n = n ∧ lmax m n = m) := by
  unfold lmin lmax
  by_cases h : n.cps.toList < m.cps.toList
  · by_cases g : m.cps.toList < n.cps.toList
    · exact absurd (List.lt_trans h g) (List.lt_irrefl _)
    · have e : ¬ m.cps.toList < n.cps.toList := g
      rw [if_pos h]
      by_cases g2 : m.cps.toList < n.cps.toList
      · exact absurd g2 g
      · refine .inr ⟨rfl, ?_⟩
        rw [if_neg g2]
  · rw [if_neg h]
    by_cases g : m.cps.toList < n.cps.toList
    · exact .inl ⟨rfl, if_pos g⟩
    · have e : m = n := by
        have h1 : m.cps.toList ≤ n.cps.toList := List.not_lt.mp h
        have h2 : n.cps.toList ≤ m.cps.toList := List.not_lt.mp g
        exact str_ext (List.le_antisymm h1 h2)
      subst e
      exact .inl ⟨rfl, if_neg g⟩
theorem OfN.put {pool : List Str} {ps : List (Str × Str)} {i j : Nat} {m n : Str} (h : OfN pool ps i j) (nd : pool.Nodup) (hj : j < i) (hm : pool[i]? = some m) (hn : pool[j]? = some n) : OfN pool (ps ++ [(lmin m n, lmax m n)]) i (j + 1) := by
  refine ⟨List.nodup_append.mpr ⟨h.1, List.pairwise_singleton _ _, fun p hp q hq e => ?_⟩, fun p hp => ?_⟩
  · rw [List.mem_singleton.mp hq] at e
    obtain ⟨a, c, m', n', h1, h2, h3, h4, h5⟩ := h.2 p hp
    rw [e] at h5
    have e1 := congrArg Prod.fst h5
    have e2 := congrArg Prod.snd h5
    simp only at e1 e2
    have key : (m = m' ∧ n = n') ∨ (m = n' ∧ n = m') := by
      rcases mm_cases m n with ⟨k1, k2⟩ | ⟨k1, k2⟩ <;> rcases mm_cases m' n' with ⟨k3, k4⟩ | ⟨k3, k4⟩ <;> rw [k1, k3] at e1 <;> rw [k2, k4] at e2
      · exact .inl ⟨e1, e2⟩
      · exact .inr ⟨e1, e2⟩
      · exact .inr ⟨e2, e1⟩
      · exact .inl ⟨e2, e1⟩
    rcases key with ⟨rfl, rfl⟩ | ⟨rfl, rfl⟩
    · have := nd_ix nd hm h3
      have := nd_ix nd hn h4
      omega
    · have := nd_ix nd hm h4
      have := nd_ix nd hn h3
      omega
  · rcases List.mem_append.mp hp with z | z
    · exact h.step.2 p z
    · exact ⟨i, j, m, n, hj, by omega, hm, hn, List.mem_singleton.mp z⟩
theorem OfN.of {pool : List Str} {ps : List (Str × Str)} {i j : Nat} (h : OfN pool ps i j) (nd : pool.Nodup) : OfPool pool ps := fun p hp => by
  obtain ⟨a, c, m, n, h1, h2, h3, h4, h5⟩ := h.2 p hp
  refine ⟨m, n, List.mem_of_getElem? h3, List.mem_of_getElem? h4, fun z => ?_, h5⟩
  rw [← z] at h4
  have := nd_ix nd h3 h4
  omega
/-! ### words with a sign between, and back -/
/-! ### pairs of texts, one below the other -/
section
variable {X : Cx}
def pltB (p q : Str × Str) : Bool := PySem.W.dataLt (.tuple [.str p.1, .str p.2]) (.tuple [.str q.1, .str q.2])
end
/-! ### a def of one argument, by its name too -/
structure Cal1 (P : Program) (w : World) (K : PySem.W.Frag) (mg : Str → Option Value) (base : Heap) (k : Nat) (x p : Str) (sp : Sp) : Prop where
  ex : ∃ f fd, FnOk P w K mg base CX0 k f fd [p] sp ∧ mg x = some (.ref f) ∧ PySem.W.keepIn K (.ref f) = true ∧ Binds K fd [p] [] ∧ KBinds K fd [p] [p] gRev gRev
theorem Cal1.cal {P : Program} {w : World} {K : PySem.W.Frag} {mg : Str → Option Value} {base : Heap} {k : Nat} {x p : Str} {sp : Sp} (C : Cal1 P w K mg base k x p sp) : Cal P w K mg base k x [p] sp := by
  obtain ⟨f, fd, F, hm, hk, hb, _⟩ := C.ex
  exact ⟨f, fd, F, hm, hk, hb⟩
section
variable {X : Cx} {k n : Nat} {x q : Str} {sp : Sp} {p pos : Pos} {kws : List Keyword} {tk : TA}
end
section
variable {X : Cx}
end
/-! ### promises -/
/-- pairs as tuples that are known to be tuples -/
def PairsT (H : Hp) (qs : List B3) : Prop := ∀ q ∈ qs, TupAt H q.1 [.str q.2.1, .str q.2.2]
theorem PairsT.same {H H' : Hp} {qs : List B3} (s : Same H H') (h : PairsT H qs) : PairsT H' qs := fun q hq => (h q hq).same s
end Lk
set_option maxRecDepth 100000
set_option maxHeartbeats 4000000
namespace Lk
open PySem PySem.Spec PyProof.Rows L2
/-! ### sets whose members are tuples of anything that is carried by value (texts, numbers): below 64 members -/
section
variable {P : Program} {w : World} {A : Around} {E : Value → Shared → Prop} {s : Shared} {κ : Type} [DecidableEq κ] {knd : KeyKind P w κ}
/-- the members, with the places of their tuples -/
abbrev Mem (κ : Type) := List (Addr × List κ)
abbrev tHash (knd : KeyKind P w κ) (k : List κ) : Int := tupleKeyHash knd k
def hashesOf (knd : KeyKind P w κ) (L : Mem κ) : List Int := L.map fun z => tHash knd z.2
def entsOf (knd : KeyKind P w κ) (L : Mem κ) : List (Int × Value) := L.map fun z => (tHash knd z.2, Value.ref z.1)
/-- a set that lies at a -/
structure HSet (knd : KeyKind P w κ) (h : Heap) (a : Addr) (L : Mem κ) (es : Array (Int × Value)) (ep : Nat) (t : SetTable) : Prop where
  obj : ∃ o, h.get? a = some o ∧ o.ExactSet ∧ o.data = .set es ep t
  ent : es.toList = entsOf knd L
  tab : TabOk t (hashesOf knd L)
  once : (L.map (·.2)).Nodup
  lie : ∀ z ∈ L, IsTupleKey knd h z.2 z.1
  led : w.params.followText "set-order" = true ∨ t.led = true
  free : L.length * 5 < t.mask * 3
  small : L.length < 64
variable {a : Addr} {L : Mem κ} {es : Array (Int × Value)} {ep : Nat} {t : SetTable}
theorem ents_len (e : es.toList = entsOf knd L) : es.size = L.length := by
  rw [← Array.length_toList, e, entsOf, List.length_map]
theorem HSet.size (R : HSet knd s.heap a L es ep t) : es.size = L.length := ents_len R.ent
theorem HSet.places (R : HSet knd s.heap a L es ep t) : t.place.size = L.length := by
  rw [R.tab.sz, hashesOf, List.length_map]
theorem fits_of (e1 : t.place.size = es.size) (e2 : t.dummies = #[]) (le : es.size ≤ t.mask) : t.fits es.size = true := by
  unfold SetTable.fits SetTable.fill
  rw [e2, e1]
  show (es.size == es.size && decide (es.size + 0 ≤ t.mask)) = true
  rw [beq_self_eq_true, Bool.true_and, decide_eq_true (by omega)]
theorem HSet.fits (R : HSet knd s.heap a L es ep t) : t.fits es.size = true :=
  fits_of (R.places.trans R.size.symm) R.tab.dm (by have := R.size; have := R.free; omega)
theorem HSet.whole (R : HSet knd s.heap a L es ep t) : ¬ t.gaveWay = true := by
  unfold SetTable.gaveWay
  rw [mask_odd R.tab.mok]
  decide
/-! one more member -/
/-! set(xs) -/
/-- what a set has taken up of a list -/
def Fed (ks L : Mem κ) : Prop := (∀ z ∈ L, z ∈ ks) ∧ (∀ z ∈ ks, z.2 ∈ L.map (·.2)) ∧ L.length ≤ ks.length
theorem Fed.nil : Fed ([] : Mem κ) [] := ⟨fun _ m => m, fun _ m => absurd m List.not_mem_nil, Nat.le_refl _⟩
theorem Fed.step {ks L L' : Mem κ} {z : Addr × List κ} (f : Fed ks L) (c : z.2 ∈ L.map (·.2) ∧ L' = L ∨ L'.Perm (z :: L)) : Fed (ks ++ [z]) L' := by
  obtain ⟨f1, f2, f3⟩ := f
  rcases c with ⟨m, rfl⟩ | pm
  · refine ⟨fun y my => List.mem_append_left _ (f1 y my), fun y my => ?_, by rw [List.length_append]; omega⟩
    rcases List.mem_append.mp my with my | my
    · exact f2 y my
    · rw [List.mem_singleton.mp my]; exact m
  · refine ⟨fun y my => ?_, fun y my => ?_, by rw [List.length_append, pm.length_eq]; exact Nat.succ_le_succ f3⟩
    · rcases List.mem_cons.mp (pm.mem_iff.mp my) with e | my
      · exact List.mem_append_right _ (List.mem_singleton.mpr e)
      · exact List.mem_append_left _ (f1 y my)
    · rw [(pm.map (·.2)).mem_iff, List.map_cons]
      rcases List.mem_append.mp my with my | my
      · exact List.mem_cons_of_mem _ (f2 y my)
      · rw [List.mem_singleton.mp my]; exact List.mem_cons_self
theorem HSet.kept {h h' : Heap} (R : HSet knd h a L es ep t) (g : ∀ o, h.get? a = some o → h'.get? a = some o) (l : ∀ z ∈ L, IsTupleKey knd h' z.2 z.1) : HSet knd h' a L es ep t :=
  { R with obj := let ⟨o, e, r⟩ := R.obj; ⟨o, g o e, r⟩, lie := l }
theorem HSet.new {h : Heap} (g : h.get? a = some (setOb (!w.params.followText "set-order"))) : HSet knd h a [] #[] 0 (.fresh 0 0 (!w.params.followText "set-order")) where
  obj := ⟨_, g, ⟨rfl, rfl, rfl⟩, rfl⟩
  ent := rfl
  tab := { ris := List.Pairwise.nil, dm := rfl, sz := rfl, mok := .inl rfl, bd := fun _ m => (nomatch m), reach := fun i _ _ e => (by rw [show hashesOf knd ([] : Mem κ) = [] from rfl, List.getElem?_nil] at e; cases e) }
  once := .nil
  lie := fun _ m => nomatch m
  led := by
    cases e : w.params.followText "set-order"
    · exact .inr rfl
    · exact .inl rfl
  free := by show 0 * 5 < 7 * 3; decide
  small := by show 0 < 64; decide
/-! sorted(a set) -/
end
end Lk
set_option maxRecDepth 100000
set_option maxHeartbeats 4000000
namespace Lk
open PySem PySem.Spec PyProof.Rows L2
/-! ### sorted(set(xs)), xs a list of pairs of texts -/
section
variable {P : Program} {w : World} {A : Around} {E : Value → Shared → Prop} {s : Shared}
end
section
variable {X : Cx}
end
end Lk
set_option maxRecDepth 100000
set_option maxHeartbeats 4000000
namespace Lk
open PySem PySem.Spec PyProof.Rows L2
/-! ### enumerate over an iterator whose own step may make things (a zip) -/
section
variable {prog : Program} {w : World} {A : Around} {E : Value → Shared → Prop} {s : Shared}
/-! ### a zip's step, where its pair before is let go -/
/-! ### whichever way -/
/-- the state of a zip that another iterator asks: nothing handed out yet, or the pair T -/
def ZipSt (h : Heap) (z TI TO : Addr) : Prop := IsZip h z TI TO .none ∨ ∃ T f, IsZipHeld h z TI TO T f
theorem ZipSt.obj {h : Heap} {z TI TO : Addr} (x : ZipSt h z TI TO) : ∃ o vs, h.get? z = some o ∧ o.cls = .type "zip" ∧ o.data = .fields vs := by
  rcases x with e | ⟨T, f, e⟩
  · exact ⟨_, _, e, rfl, rfl⟩
  · exact ⟨_, _, e, rfl, rfl⟩
theorem ZipSt.at {h h' : Heap} {z TI TO : Addr} (x : ZipSt h z TI TO) (k : ∀ o, h.get? z = some o → h'.get? z = some o) : ZipSt h' z TI TO := x.imp (k _) fun ⟨T, f, e⟩ => ⟨T, f, k _ e⟩
open AutoSeq1 (wpAny_loadPart') in
end
end Lk
set_option maxRecDepth 100000
set_option maxHeartbeats 4000000
namespace Lk
open PySem PySem.Spec PyProof.Rows L2
/-- exchanged at the first place where neighbours stand the other way about, again and again -/
inductive ExF (f : Str → Nat) : List Str → List Nat → List Str → Prop where
  | nil (o : List Str) : ExF f o [] o
  | cons {o o' : List Str} {i : Nat} {ts : List Nat} (x y : Str) (hx : o[i]? = some x) (hy : o[i + 1]? = some y) (up : (o.take (i + 1)).Pairwise fun u v => f u < f v) (lt : f y < f x) (t : ExF f (swapL o i x y) ts o') : ExF f o (i :: ts) o'
theorem up_pair {f : Str → Nat} {l : List Str} {k i : Nat} {x y : Str} (h : (l.take k).Pairwise fun u v => f u < f v) (hi : i + 1 < k) (hx : l[i]? = some x) (hy : l[i + 1]? = some y) : f x < f y := by
  have h1 : (l.take k)[i]? = some x := by rw [List.getElem?_take, if_pos (by omega)]; exact hx
  have h2 : (l.take k)[i + 1]? = some y := by rw [List.getElem?_take, if_pos hi]; exact hy
  obtain ⟨b1, e1⟩ := List.getElem?_eq_some_iff.mp h1
  obtain ⟨b2, e2⟩ := List.getElem?_eq_some_iff.mp h2
  have := List.pairwise_iff_getElem.mp h i (i + 1) b1 b2 (by omega)
  rw [e1, e2] at this
  exact this
theorem ExF.uniq {f : Str → Nat} {o a : List Str} {ts : List Nat} (h : ExF f o ts a) (ha : a.Pairwise fun u v => f u < f v) : ∀ {b : List Str} {us : List Nat}, ExF f o us b → (b.Pairwise fun u v => f u < f v) → ts = us := by
  induction h with
  | nil o =>
    intro b us h hb
    cases h with
    | nil => rfl
    | @cons _ _ i us x y hx hy up lt t =>
      have := up_pair (k := o.length) (by rw [List.take_of_length_le (Nat.le_refl _)]; exact ha) (List.getElem?_eq_some_iff.mp hy).1 hx hy
      omega
  | @cons o o' i ts x y hx hy up lt t ih =>
    intro b us h hb
    cases h with
    | nil =>
      have := up_pair (k := o.length) (by rw [List.take_of_length_le (Nat.le_refl _)]; exact hb) (List.getElem?_eq_some_iff.mp hy).1 hx hy
      omega
    | @cons _ _ j us u v hu hv up2 lt2 t2 =>
      have e : i = j := by
        rcases Nat.lt_trichotomy i j with z | z | z
        · have := up_pair up2 (by omega) hx hy
          omega
        · exact z
        · have := up_pair up (by omega) hu hv
          omega
      subst e
      rw [hx] at hu
      cases hu
      rw [hy] at hv
      cases hv
      rw [ih ha t2 hb]
end Lk
set_option maxRecDepth 100000
set_option maxHeartbeats 4000000
namespace Lk
open PySem PySem.Spec PyProof.Rows L2
/-! ### the first of the elders who is astray -/
theorem TupAt.but {K : PySem.W.Frag} {H : Hp} {e : Addr} {elders : List Str} (h : TupAt H e (elders.map V.str)) : ButKeeps K H e elders := fun H' s => .inr (h.same s).sq
end Lk
namespace Lk
open PySem PySem.Spec PyProof.Rows L2
end Lk
set_option maxRecDepth 100000
set_option maxHeartbeats 4000000
namespace Lk
open PySem PySem.Spec PyProof.Rows L2
/-! ### the set of a tuple of texts, some twice -/
section
variable {P : Program} {w : World} {A : Around} {E : Value → Shared → Prop} {s : Shared}
theorem set_strsTD {l : Addr} {its : List Value} {xs : List Str} {Q : Value → Shared → Prop} (hh : A.handled = none) (hl : s.heap.IsTuple l its.toArray) (hi : PyProof.Rows.StrsAre its xs) (few : ∀ us : List Str, us.Nodup → (∀ y ∈ us, y ∈ xs) → us.length + 1 < scanBound)
    (h : ∀ (h' : Heap) (tk : Nat) (us : List Str), us.Nodup → (∀ y, y ∈ us ↔ y ∈ xs) → h'.SetOf (PySem.strKind P w) s.heap.objs.size (fun y => decide (y ∈ us)) us.length → (∀ b o, s.heap.get? b = some o → h'.get? b = some o) → Q (.ref s.heap.objs.size) { s with heap := h', toks := tk }) :
    wpAny (model P w) A (call (.type "set") [.ref l]) Q E s := by
  obtain ⟨c, tl, hmro⟩ := PySem.F.called_set.mro
  have k1 := PySem.F.called_set.made
  have k2 := PySem.F.called_set.sub
  refine wpAny_call (codeAny_of_tree (show wpAny _ _ (callAny (.type "set") _) _ _ _ from wpAny_pure ⟨Code.quiet_builtin _ (by decide +kernel), codeAny_builtin PySem.F.entry_type_call ?_⟩))
  rw [Around.under_plain (weight_type_call_type "set" [.ref l] []) rfl]
  have k3 := PySem.F.called_set.notType
  have k4 := PySem.F.called_set.canCreate
  have k5 := PySem.F.typeCall_set_1 (.ref l)
  repeat (any_goals (first | assumption | wp_step))
  refine codeAny_mono (code_set_new_1 (.ref l) (E := E) (Q₁ := fun obj s1 => ∃ led : Bool, obj = .ref s.heap.objs.size ∧ s1 = { s with heap := s.heap.push (setOb led) }) fun led => ⟨led, rfl, rfl⟩) fun r s1 hr => ?_
  match r, hr with
  | .error e, hr => exact hr
  | .ok .next, hr => exact hr.elim
  | .ok .brk, hr => exact hr.elim
  | .ok .cont, hr => exact hr.elim
  | .ok (.ret obj), hr =>
    obtain ⟨led, rfl, rfl⟩ := hr
    have gS : (s.heap.push (setOb led)).get? s.heap.objs.size = some (setOb led) := Heap.get?_push_size _ rfl
    have tS : Shared.TypeIs { s with heap := s.heap.push (setOb led) } (.ref s.heap.objs.size) "set" := ⟨_, gS, rfl⟩
    have k6 := PySem.F.called_set.init.lookup
    have k7 := PySem.F.called_set.init.bind (.ref s.heap.objs.size)
    repeat (any_goals (first | assumption | wp_step))
    refine codeAny_mono (codeAny_call_builtin (R := wants (fun r s2 => r = .none ∧ ∃ h' tk, s2 = { s with heap := h', toks := tk } ∧ ∃ us : List Str, us.Nodup ∧ (∀ y, y ∈ us ↔ y ∈ xs) ∧ h'.SetOf (PySem.strKind P w) s.heap.objs.size (fun y => decide (y ∈ us)) us.length ∧ (∀ b o, s.heap.get? b = some o → h'.get? b = some o)) E)
      PySem.F.called_set.init.plain PySem.F.entry_set_init (check_set_init_1 tS ?_)) fun r2 s2 hr2 => ?_
    · obtain ⟨⟨oc, od, oa, os⟩, lo, lc, nl, ld⟩ := hl
      simp only at lc ld
      subst lc ld
      have lt : l < s.heap.objs.size := Heap.lt_size lo
      have lo1 : (s.heap.push (setOb led)).get? l = some { cls := .type "tuple", dict := od, data := .seq its.toArray nl, slots := os } := Heap.get?_push_of_some _ lo
      have k8 := PySem.F.sub_tuple_set
      have k9 := PySem.F.sub_tuple_frozenset
      have k10 : (Value.type "tuple" == Value.type "dict") = false := by decide
      have l1 : (s.heap.push (setOb led)).IsTuple l its.toArray := ⟨_, lo1, rfl, nl, rfl⟩
      unfold Builtin.«set.__init__» noKeywords Builtin.Frozenset.updateFrom
      generalize hP : pyIter = Pi
      wp_walk
      subst hP
      refine wpAny_pyIter_tuple l1 (wpAny_bind (wpAny_runValue ?_))
      have sz : (s.heap.push (setOb led)).objs.size = s.heap.objs.size + 1 := Heap.size_push ..
      have ni : l ≠ (s.heap.push (setOb led)).objs.size := by rw [sz]; exact Nat.ne_of_lt (Nat.lt_succ_of_lt lt)
      have h3 : A.in1.in1.in1.handled = none := by simp [hh]
      have nf : s.heap.objs.size ∉ [(s.heap.push (setOb led)).objs.size, l] := fun z => by
        rcases List.mem_cons.mp z with z | z
        · rw [sz] at z
          exact Nat.ne_of_lt (Nat.lt_succ_self _) z
        · exact Nat.ne_of_gt lt (List.mem_singleton.mp z)
      have el : xs.length = its.toArray.size := by rw [← StrsAre.len_eq hi, List.size_toArray]
      refine strs_loopD ((Walks.tuple h3 _ l ni its.toArray).toS) nf el few (fun i v hv => ?_) its.toArray.size 0 _ [] (Nat.zero_add _) ⟨⟨_, Heap.get?_push_size _ rfl, rfl, rfl⟩, l1.push _⟩ List.nodup_nil (fun y => by simp) ?_ fun s' us hm nu mu so => ?_
      · obtain ⟨t, e⟩ := SS.strs_at hi i v (by rw [← Array.getElem?_toList] at hv; simpa using hv)
        have li : i < xs.length := by
          have := (Array.getElem?_eq_some_iff.mp hv).1
          omega
        exact ⟨xs.getD i Str.empty, t, by rw [List.getD_eq_getElem?_getD, List.getElem?_eq_getElem li]; rfl, e⟩
      · have g2 := Heap.get?_push_of_some { cls := .type "tuple_iterator", data := .fields #[.ref l, .int 0 0] } gS
        exact SetOf_congr ((setObjOf_fresh (knd := PySem.strKind P w) led).setOf g2 (by unfold scanBound; omega)) (fun _ => rfl) rfl
      · obtain ⟨h', g', d', tk', os'⟩ := s'
        obtain rfl : g' = s.gens := hm.gens
        obtain rfl : d' = s.drawn := hm.drawn
        obtain rfl : os' = s.os := hm.os
        refine wpAny_pure (show wpAny _ _ (ret Value.none) _ _ _ from wpAny_pure ⟨rfl, h', tk', rfl, us, nu, mu, so, fun b o z => ?_⟩)
        have bl := Heap.lt_size z
        refine hm.heap b o (fun q => ?_) (Heap.get?_push_of_some _ (Heap.get?_push_of_some _ z))
        rcases List.mem_cons.mp q with q | q
        · exact Nat.ne_of_lt bl q
        · have := List.mem_singleton.mp q
          rw [sz] at this
          exact Nat.ne_of_lt (Nat.lt_succ_of_lt bl) this
    · match r2, hr2 with
      | .error e, hr2 => exact hr2
      | .ok .next, hr2 => exact hr2.elim
      | .ok .brk, hr2 => exact hr2.elim
      | .ok .cont, hr2 => exact hr2.elim
      | .ok (.ret r), hr2 =>
        obtain ⟨rfl, h', tk, rfl, us, nu, mu, so, kp⟩ := hr2
        repeat (any_goals (first | assumption | wp_step))
        exact h _ _ us nu mu so kp
end
section
variable {X : Cx}
end
end Lk
set_option maxRecDepth 100000
set_option maxHeartbeats 4000000
namespace Lk
open PySem PySem.Spec PyProof.Rows L2
/-! ### texts that may be anything -/
def nb (x : Str) : Bool := decide (1 ≤ x.length) && decide (x.length ≤ 8) && x.cps.toList.all fun c => decide (97 ≤ c) && decide (c ≤ 122)
theorem nb_iff {x : Str} : nb x = true ↔ NameOk x := by
  unfold nb NameOk
  rw [len_tlx]
  simp only [Bool.and_eq_true, decide_eq_true_eq, List.all_eq_true]
  constructor
  · rintro ⟨⟨h1, h2⟩, h3⟩
    exact ⟨h1, h2, fun c hc => h3 c hc⟩
  · rintro ⟨h1, h2, h3⟩
    exact ⟨⟨h1, h2⟩, fun c hc => h3 c hc⟩
def wordsL (T : Str) : List Str := if T = "-" then [] else Txt.split T " "
/-- a row -/
def rowB (ws : List Str) : Bool := ws.all nb && decide ws.Nodup
/-- pairs -/
def fpB : List Str → Bool
  | [x, y] => nb x && nb y && decide (x.cps.toList < y.cps.toList)
  | _ => false
def splitW (x : Str) : List Str := Txt.split x "-"
def p2 (w : List Str) : Str × Str := (w.getD 0 "", w.getD 1 "")
def riseB : List (Str × Str) → Bool
  | [] => true
  | [_] => true
  | p :: q :: r => pltB p q && riseB (q :: r)
def pairsB (T : Str) : Bool := ((wordsL T).map splitW).all fpB
def psOf (T : Str) : List (Str × Str) := (wordsL T).map fun x => p2 (splitW x)
def frB (T : Str) : Bool := pairsB T && riseB (psOf T)
/-! ### promises -/
/-- tuples of texts -/
abbrev W3 := Addr × List Str
def WsT (H : Hp) (qs : List W3) : Prop := ∀ q ∈ qs, TupAt H q.1 (q.2.map V.str) ∧ q.2.length ≤ 900 ∧ ∀ x ∈ q.2, x.length ≤ 1000
theorem WsT.same {H H' : Hp} {qs : List W3} (s : Same H H') (h : WsT H qs) : WsT H' qs := fun q hq => ⟨(h q hq).1.same s, (h q hq).2⟩
def refsTx (qs : List W3) : List V := qs.map fun q => V.ref q.1
/-- what is told of a text: friends, or it is refused with it -/
def FriAt (H : Hp) (t : Addr) (T : Str) : Prop := ∃ qs : List W3, TupAt H t (refsTx qs) ∧ WsT H qs ∧ qs.map (·.2) = (wordsL T).map splitW
def lb (c : Nat) : Bool := decide (97 ≤ c) && decide (c ≤ 122)
theorem letter_lt {c : Nat} (h : c < 97) : (!decide (([c] : List Nat) < (("a" : Str)).cps.toList)) = false := by
  have e : (("a" : Str)).cps.toList = [97] := by decide +kernel
  rw [e, decide_eq_true (List.cons_lt_cons_iff.mpr (.inl h))]
  rfl
theorem letter_gt {c : Nat} (h : 122 < c) : (!decide ((("z" : Str)).cps.toList < ([c] : List Nat))) = false := by
  have e : (("z" : Str)).cps.toList = [122] := by decide +kernel
  rw [e, decide_eq_true (List.cons_lt_cons_iff.mpr (.inl h))]
  rfl
theorem nb_in {x : Str} (h1 : 1 ≤ x.length) (h2 : x.length ≤ 8) : nb x = (x.cps.toList.map lb).all id := by
  unfold nb
  rw [decide_eq_true h1, decide_eq_true h2, List.all_map]
  rfl
/-- what is told of each, gathered -/
theorem bools_map {α : Type} (f : α → Bool) (xs : List α) : (xs.map fun x => V.bl (f x)) = (xs.map f).map V.bl := by rw [List.map_map]; rfl
theorem nodupLen2 : ∀ {line us : List Str}, us.Nodup → (∀ y ∈ line, y ∈ us) → line.length ≤ us.length → (∀ y ∈ us, y ∈ line) → line.Nodup
  | [], _, _, _, _, _ => List.nodup_nil
  | x :: l, us, nu, h, le, hb => by
    have hx := h x List.mem_cons_self
    have e := nu.erase x
    have me : ∀ y, y ∈ us.erase x ↔ y ≠ x ∧ y ∈ us := fun y => nu.mem_erase_iff
    have le' : (us.erase x).length + 1 = us.length := by
      rw [List.length_erase_of_mem hx]
      have := List.length_pos_of_mem hx
      omega
    have nx : x ∉ l := fun z => by
      have s1 : ∀ y ∈ us, y ∈ l := fun y hy => by
        rcases List.mem_cons.mp (hb y hy) with q | q
        · subst q; exact z
        · exact q
      have := nd_len us l nu s1
      have : (x :: l).length = l.length + 1 := rfl
      omega
    refine List.nodup_cons.mpr ⟨nx, nodupLen2 e (fun y hy => (me y).mpr ⟨fun q => nx (q ▸ hy), h y (List.mem_cons_of_mem _ hy)⟩) ?_ fun y hy => ?_⟩
    · have : (x :: l).length = l.length + 1 := rfl
      omega
    · rcases List.mem_cons.mp (hb y ((me y).mp hy).2) with q | q
      · exact absurd q ((me y).mp hy).1
      · exact q
theorem set_len {us xs : List Str} (nu : us.Nodup) (mu : ∀ y, y ∈ us ↔ y ∈ xs) : decide (V.int (us.length : Nat) = V.int (xs.length : Nat)) = decide xs.Nodup := by
  by_cases h : xs.Nodup
  · have l1 := nd_len us xs nu fun x hx => (mu x).mp hx
    have l2 := nd_len xs us h fun x hx => (mu x).mpr hx
    rw [decide_eq_true h, decide_eq_true (by rw [show us.length = xs.length by omega])]
  · rw [decide_eq_false h]
    refine decide_eq_false fun e => ?_
    have e' := V.int.inj e
    exact h (nodupLen2 nu (fun y hy => (mu y).mpr hy) (by omega) fun y hy => (mu y).mp hy)
section
variable {X : Cx}
end
theorem FriAt.same {H H' : Hp} {t : Addr} {T : Str} (s : Same H H') (h : FriAt H t T) : FriAt H' t T := by
  obtain ⟨qs, h1, h2, h3⟩ := h
  exact ⟨qs, h1.same s, h2.same s, h3⟩
/-- what is due: friends, or the text in a list -/
def DueF (H : Hp) (v : V) (T : Str) : Prop := (frB T = true ∧ ∃ t, v = .ref t ∧ FriAt H t T) ∨ (frB T = false ∧ ∃ l, v = .ref l ∧ H l = some (.lst [.str T]))
def DueR (H : Hp) (v : V) (T : Str) : Prop := (rowB (wordsL T) = true ∧ ∃ t, v = .ref t ∧ TupAt H t ((wordsL T).map V.str)) ∨ (rowB (wordsL T) = false ∧ ∃ l, v = .ref l ∧ H l = some (.lst [.str T]))
theorem DueF.same {H H' : Hp} {v : V} {T : Str} (s : Same H H') (h : DueF H v T) : DueF H' v T :=
  h.imp (fun ⟨e, t, z, f⟩ => ⟨e, t, z, f.same s⟩) fun ⟨e, l, z, f⟩ => ⟨e, l, z, s _ _ f⟩
theorem DueR.same {H H' : Hp} {v : V} {T : Str} (s : Same H H') (h : DueR H v T) : DueR H' v T :=
  h.imp (fun ⟨e, t, z, f⟩ => ⟨e, t, z, f.same s⟩) fun ⟨e, l, z, f⟩ => ⟨e, l, z, s _ _ f⟩
section
variable {J : It} {n : Nat} {G : Hp → Prop} {Y : Nat → Hp → V → Hp → Prop} {g : TG} {te : TE} {vs : List Nat} {σ : L2.St} {H1 : Hp} {D : Addr} {Qd : Hp → Prop}
end
/-- due, or none -/
def NotF (H : Hp) (v : V) (T : Str) : Prop := (frB T = true ∧ ∃ t, v = .ref t ∧ FriAt H t T) ∨ (frB T = false ∧ v = .non)
def NotR (H : Hp) (v : V) (T : Str) : Prop := (rowB (wordsL T) = true ∧ ∃ t, v = .ref t ∧ TupAt H t ((wordsL T).map V.str)) ∨ (rowB (wordsL T) = false ∧ v = .non)
theorem NotF.same {H H' : Hp} {v : V} {T : Str} (s : Same H H') (h : NotF H v T) : NotF H' v T := h.imp (fun ⟨e, t, z, f⟩ => ⟨e, t, z, f.same s⟩) id
theorem NotR.same {H H' : Hp} {v : V} {T : Str} (s : Same H H') (h : NotR H v T) : NotR H' v T := h.imp (fun ⟨e, t, z, f⟩ => ⟨e, t, z, f.same s⟩) id
/-- the two that are due; the list that gathers them is another -/
def CDue (D : Addr) (T : Str) (i : Nat) (y : V) (H : Hp) : Prop := (∀ l, y = .ref l → l ≠ D) ∧ (i = 0 → DueF H y T) ∧ (i = 1 → DueR H y T)
theorem CDue.same {D : Addr} {T : Str} {i : Nat} {y : V} {H H' : Hp} (s : Same H H') (h : CDue D T i y H) : CDue D T i y H' := ⟨h.1, fun e => (h.2.1 e).same s, fun e => (h.2.2 e).same s⟩
theorem CDue.upd_ {D : Addr} {T : Str} {i : Nat} {y : V} {H : Hp} {ys : List V} {u : HO} (hD : H D = some (.lst ys)) (h : CDue D T i y H) : CDue D T i y (upd H D u) := by
  refine ⟨h.1, fun e => ?_, fun e => ?_⟩
  · rcases h.2.1 e with ⟨z, t, e2, qs, f1, f2, f3⟩ | ⟨z, l, e2, f⟩
    · exact .inl ⟨z, t, e2, qs, f1.upd_ hD, fun q hq => ⟨(f2 q hq).1.upd_ hD, (f2 q hq).2⟩, f3⟩
    · exact .inr ⟨z, l, e2, (upd_ne (h.1 l e2)).trans f⟩
  · rcases h.2.2 e with ⟨z, t, e2, f⟩ | ⟨z, l, e2, f⟩
    · exact .inl ⟨z, t, e2, f.upd_ hD⟩
    · exact .inr ⟨z, l, e2, (upd_ne (h.1 l e2)).trans f⟩
theorem Cal.wk {P : Program} {w : World} {K : PySem.W.Frag} {mg : Str → Option Value} {base : Heap} {k : Nat} {x : Str} {ps : List Str} {sp sq : Sp} (C : Cal P w K mg base k x ps sp) (h : ∀ vs H Q E, sq vs H Q E → sp vs H Q E) : Cal P w K mg base k x ps sq := by
  obtain ⟨f, fd, F, r⟩ := C
  exact ⟨f, fd, F.imp h, r⟩
end Lk
set_option maxRecDepth 100000
set_option maxHeartbeats 4000000
namespace Lk
open PySem PySem.Spec PyProof.Rows L2
/-! ### things of any shape: atoms, lists and tuples of them, nested; bad: where none of it lies -/
mutual
def Tr (bad : Addr → Prop) (H : Hp) : PyData → V → Prop
  | .none, v => v = .non
  | .bool c, v => v = .bl c
  | .int i, v => v = .int i
  | .str s, v => v = .str s
  | .list ds, v => ∃ a xs, v = .ref a ∧ ¬ bad a ∧ H a = some (.lst xs) ∧ TrAll bad H ds xs
  | .tuple ds, v => ∃ a xs, v = .ref a ∧ ¬ bad a ∧ TupX H a xs ∧ TrAll bad H ds xs
  | .dict _, _ => False
def TrAll (bad : Addr → Prop) (H : Hp) : List PyData → List V → Prop
  | [], xs => xs = []
  | d :: ds, xs => ∃ x r, xs = x :: r ∧ Tr bad H d x ∧ TrAll bad H ds r
end
theorem TupX.keep {H H' : Hp} {a : Addr} {xs : List V} (k : ∀ o, H a = some o → H' a = some o) (h : TupX H a xs) : TupX H' a xs := by
  rcases h with h | ⟨o, h1, h2⟩
  · exact .inl (k _ h)
  · exact .inr ⟨o, h1, k _ h2⟩
mutual
theorem Tr.keep {bad : Addr → Prop} {H H' : Hp} (k : ∀ a o, ¬ bad a → H a = some o → H' a = some o) : ∀ {d : PyData} {v : V}, Tr bad H d v → Tr bad H' d v
  | .none, _, h => by simpa only [Tr] using h
  | .bool _, _, h => by simpa only [Tr] using h
  | .int _, _, h => by simpa only [Tr] using h
  | .str _, _, h => by simpa only [Tr] using h
  | .list ds, v, h => by
    simp only [Tr] at h ⊢
    obtain ⟨a, xs, e, n, h1, h2⟩ := h
    exact ⟨a, xs, e, n, k _ _ n h1, TrAll.keep k h2⟩
  | .tuple ds, v, h => by
    simp only [Tr] at h ⊢
    obtain ⟨a, xs, e, n, h1, h2⟩ := h
    exact ⟨a, xs, e, n, h1.keep fun o => k _ o n, TrAll.keep k h2⟩
  | .dict _, _, h => by simp only [Tr] at h
theorem TrAll.keep {bad : Addr → Prop} {H H' : Hp} (k : ∀ a o, ¬ bad a → H a = some o → H' a = some o) : ∀ {ds : List PyData} {xs : List V}, TrAll bad H ds xs → TrAll bad H' ds xs
  | [], _, h => by simpa only [TrAll] using h
  | d :: ds, xs, h => by
    simp only [TrAll] at h ⊢
    obtain ⟨x, r, e, h1, h2⟩ := h
    exact ⟨x, r, e, Tr.keep k h1, TrAll.keep k h2⟩
end
theorem Tr.same {bad : Addr → Prop} {H H' : Hp} {d : PyData} {v : V} (s : Same H H') (h : Tr bad H d v) : Tr bad H' d v := h.keep fun a o _ e => s a o e
theorem Tr.oth {bad : Addr → Prop} {b : Addr} {H H' : Hp} {d : PyData} {v : V} (o : Oth b H H') (hb : bad b) (h : Tr bad H d v) : Tr bad H' d v := h.keep fun a u n e => o a u (fun z => n (z ▸ hb)) e
theorem TrAll.same {bad : Addr → Prop} {H H' : Hp} {ds : List PyData} {xs : List V} (s : Same H H') (h : TrAll bad H ds xs) : TrAll bad H' ds xs := h.keep fun a o _ e => s a o e
theorem TrAll.oth {bad : Addr → Prop} {b : Addr} {H H' : Hp} {ds : List PyData} {xs : List V} (o : Oth b H H') (hb : bad b) (h : TrAll bad H ds xs) : TrAll bad H' ds xs := h.keep fun a u n e => o a u (fun z => n (z ▸ hb)) e
mutual
theorem Tr.mono {bad bad' : Addr → Prop} {H : Hp} (k : ∀ a, bad a → bad' a) : ∀ {d : PyData} {v : V}, Tr bad' H d v → Tr bad H d v
  | .none, _, h => by simpa only [Tr] using h
  | .bool _, _, h => by simpa only [Tr] using h
  | .int _, _, h => by simpa only [Tr] using h
  | .str _, _, h => by simpa only [Tr] using h
  | .list ds, v, h => by
    simp only [Tr] at h ⊢
    obtain ⟨a, xs, e, n, h1, h2⟩ := h
    exact ⟨a, xs, e, fun z => n (k _ z), h1, TrAll.mono k h2⟩
  | .tuple ds, v, h => by
    simp only [Tr] at h ⊢
    obtain ⟨a, xs, e, n, h1, h2⟩ := h
    exact ⟨a, xs, e, fun z => n (k _ z), h1, TrAll.mono k h2⟩
  | .dict _, _, h => by simp only [Tr] at h
theorem TrAll.mono {bad bad' : Addr → Prop} {H : Hp} (k : ∀ a, bad a → bad' a) : ∀ {ds : List PyData} {xs : List V}, TrAll bad' H ds xs → TrAll bad H ds xs
  | [], _, h => by simpa only [TrAll] using h
  | d :: ds, xs, h => by
    simp only [TrAll] at h ⊢
    obtain ⟨x, r, e, h1, h2⟩ := h
    exact ⟨x, r, e, Tr.mono k h1, TrAll.mono k h2⟩
end
mutual
/-- an address that comes later, or of which nothing was said, is none of a thing that lies there -/
theorem Tr.put {bad : Addr → Prop} {H : Hp} {s : Addr} (hs : H s = none) : ∀ {d : PyData} {v : V}, Tr bad H d v → Tr (fun a => bad a ∨ a = s) H d v
  | .none, _, h => by simpa only [Tr] using h
  | .bool _, _, h => by simpa only [Tr] using h
  | .int _, _, h => by simpa only [Tr] using h
  | .str _, _, h => by simpa only [Tr] using h
  | .list ds, v, h => by
    simp only [Tr] at h ⊢
    obtain ⟨a, xs, e, n, h1, h2⟩ := h
    exact ⟨a, xs, e, fun z => z.elim n fun z => (ne_of_none h1 hs) z, h1, TrAll.put hs h2⟩
  | .tuple ds, v, h => by
    simp only [Tr] at h ⊢
    obtain ⟨a, xs, e, n, h1, h2⟩ := h
    refine ⟨a, xs, e, fun z => z.elim n fun z => ?_, h1, TrAll.put hs h2⟩
    subst z
    rcases h1 with h1 | ⟨o, _, h1⟩ <;> rw [hs] at h1 <;> cases h1
  | .dict _, _, h => by simp only [Tr] at h
theorem TrAll.put {bad : Addr → Prop} {H : Hp} {s : Addr} (hs : H s = none) : ∀ {ds : List PyData} {xs : List V}, TrAll bad H ds xs → TrAll (fun a => bad a ∨ a = s) H ds xs
  | [], _, h => by simpa only [TrAll] using h
  | d :: ds, xs, h => by
    simp only [TrAll] at h ⊢
    obtain ⟨x, r, e, h1, h2⟩ := h
    exact ⟨x, r, e, Tr.put hs h1, TrAll.put hs h2⟩
end
mutual
theorem Tr.dp {K : PySem.W.Frag} {bad : Addr → Prop} {H : Hp} : ∀ {d : PyData} {v : V}, Tr bad H d v → Dp K H v d
  | .none, _, h => by simp only [Tr] at h; subst h; exact .non
  | .bool _, _, h => by simp only [Tr] at h; subst h; exact .bl _
  | .int _, _, h => by simp only [Tr] at h; subst h; exact .int _
  | .str _, _, h => by simp only [Tr] at h; subst h; exact .str _
  | .list ds, v, h => by
    simp only [Tr] at h
    obtain ⟨a, xs, rfl, n, h1, h2⟩ := h
    exact .lst (.inl (.inl h1)) (TrAll.dp h2)
  | .tuple ds, v, h => by
    simp only [Tr] at h
    obtain ⟨a, xs, rfl, n, h1, h2⟩ := h
    exact .tup (h1.elim (fun e => .inl (.inl e)) fun e => e.sq) (TrAll.dp h2)
  | .dict _, _, h => by simp only [Tr] at h
theorem TrAll.dp {K : PySem.W.Frag} {bad : Addr → Prop} {H : Hp} : ∀ {ds : List PyData} {xs : List V}, TrAll bad H ds xs → DpAll K H xs ds
  | [], _, h => by simp only [TrAll] at h; subst h; exact .nil
  | d :: ds, xs, h => by
    simp only [TrAll] at h
    obtain ⟨x, r, rfl, h1, h2⟩ := h
    exact .cons (Tr.dp h1) (TrAll.dp h2)
end
/-! ### lists of things -/
section
variable {bad : Addr → Prop} {H : Hp}
theorem TrAll.len : ∀ {ds : List PyData} {xs : List V}, TrAll bad H ds xs → xs.length = ds.length
  | [], _, h => by simp only [TrAll] at h; subst h; rfl
  | d :: ds, xs, h => by
    simp only [TrAll] at h
    obtain ⟨x, r, rfl, h1, h2⟩ := h
    rw [List.length_cons, List.length_cons, h2.len]
theorem TrAll.nil : TrAll bad H [] [] := by simp only [TrAll]
theorem TrAll.cons {d : PyData} {ds : List PyData} {x : V} {r : List V} (h1 : Tr bad H d x) (h2 : TrAll bad H ds r) : TrAll bad H (d :: ds) (x :: r) := by
  simp only [TrAll]
  exact ⟨x, r, rfl, h1, h2⟩
theorem trAll_iff : ∀ {ds : List PyData} {xs : List V}, TrAll bad H ds xs ↔ xs.length = ds.length ∧ ∀ (i : Nat) (d : PyData) (x : V), ds[i]? = some d → xs[i]? = some x → Tr bad H d x
  | [], xs => ⟨fun h => ⟨h.len, fun i d x e => by simp at e⟩, fun h => by rw [List.length_eq_zero_iff.mp h.1]; exact .nil⟩
  | d :: ds, [] => ⟨fun h => absurd h.len (by simp), fun h => absurd h.1 (by simp)⟩
  | d :: ds, x :: r => by
    constructor
    · intro h
      simp only [TrAll] at h
      obtain ⟨x', r', e, h1, h2⟩ := h
      cases e
      obtain ⟨l, k⟩ := trAll_iff.mp h2
      refine ⟨by rw [List.length_cons, List.length_cons, l], fun i d' x' e1 e2 => ?_⟩
      cases i with
      | zero => cases e1; cases e2; exact h1
      | succ i => exact k i d' x' e1 e2
    · rintro ⟨l, k⟩
      exact .cons (k 0 d x rfl rfl) (trAll_iff.mpr ⟨by simpa using l, fun i d' x' e1 e2 => k (i + 1) d' x' e1 e2⟩)
theorem TrAll.get {ds : List PyData} {xs : List V} (h : TrAll bad H ds xs) {i : Nat} (hi : i < ds.length) : ∃ d x, ds[i]? = some d ∧ xs[i]? = some x ∧ Tr bad H d x := by
  have l := h.len
  exact ⟨_, _, List.getElem?_eq_getElem hi, List.getElem?_eq_getElem (by omega), (trAll_iff.mp h).2 i _ _ (List.getElem?_eq_getElem hi) (List.getElem?_eq_getElem (by omega))⟩
theorem TrAll.app : ∀ {ds es : List PyData} {xs ys : List V}, TrAll bad H ds xs → TrAll bad H es ys → TrAll bad H (ds ++ es) (xs ++ ys)
  | [], es, xs, ys, h, k => by
    simp only [TrAll] at h
    subst h
    exact k
  | d :: ds, es, xs, ys, h, k => by
    simp only [TrAll] at h
    obtain ⟨x, r, rfl, h1, h2⟩ := h
    exact .cons h1 (h2.app k)
theorem TrAll.take {ds : List PyData} {xs : List V} (h : TrAll bad H ds xs) (n : Nat) : TrAll bad H (ds.take n) (xs.take n) := by
  obtain ⟨l, k⟩ := trAll_iff.mp h
  refine trAll_iff.mpr ⟨by rw [List.length_take, List.length_take, l], fun i d x e1 e2 => ?_⟩
  rw [List.getElem?_take] at e1 e2
  split at e1
  · rename_i c
    rw [if_pos c] at e2
    exact k i d x e1 e2
  · cases e1
theorem TrAll.drop {ds : List PyData} {xs : List V} (h : TrAll bad H ds xs) (n : Nat) : TrAll bad H (ds.drop n) (xs.drop n) := by
  obtain ⟨l, k⟩ := trAll_iff.mp h
  refine trAll_iff.mpr ⟨by rw [List.length_drop, List.length_drop, l], fun i d x e1 e2 => ?_⟩
  rw [List.getElem?_drop] at e1 e2
  exact k _ d x e1 e2
theorem TrAll.rev : ∀ {ds : List PyData} {xs : List V}, TrAll bad H ds xs → TrAll bad H ds.reverse xs.reverse
  | [], xs, h => by
    simp only [TrAll] at h
    subst h
    exact .nil
  | d :: ds, xs, h => by
    simp only [TrAll] at h
    obtain ⟨x, r, rfl, h1, h2⟩ := h
    rw [List.reverse_cons, List.reverse_cons]
    exact h2.rev.app (.cons h1 .nil)
theorem TrAll.set {ds : List PyData} {xs : List V} (h : TrAll bad H ds xs) (i : Nat) {d : PyData} {x : V} (hx : Tr bad H d x) : TrAll bad H (ds.set i d) (xs.set i x) := by
  obtain ⟨l, k⟩ := trAll_iff.mp h
  refine trAll_iff.mpr ⟨by rw [List.length_set, List.length_set, l], fun j d' x' e1 e2 => ?_⟩
  rw [List.getElem?_set] at e1 e2
  by_cases c : i = j
  · subst c
    rw [if_pos rfl] at e1 e2
    split at e1
    · split at e2
      · cases e1
        cases e2
        exact hx
      · cases e2
    · cases e1
  · rw [if_neg c] at e1 e2
    exact k j d' x' e1 e2
theorem TrAll.strs (xs : List Str) : TrAll bad H (xs.map .str) (xs.map V.str) := by
  induction xs with
  | nil => exact .nil
  | cons x r ih => exact .cons (by simp only [Tr]) ih
end
/-! ### how large a thing may be -/
structure Okd (n w : Nat) (d : PyData) : Prop where
  fit : Fit n w d
  lay : d.canLay0 = true
def OkL (n w : Nat) (ds : List PyData) : Prop := (∀ d ∈ ds, Okd n w d) ∧ PyData.weightAll ds ≤ w
theorem Okd.mono {n w n' w' : Nat} {d : PyData} (h : Okd n w d) (h1 : n ≤ n') (h2 : w ≤ w') : Okd n' w' d := ⟨h.fit.mono h1 h2, h.lay⟩
theorem OkL.mono {n w n' w' : Nat} {ds : List PyData} (h : OkL n w ds) (h1 : n ≤ n') (h2 : w ≤ w') : OkL n' w' ds := ⟨fun d hd => (h.1 d hd).mono h1 h2, Nat.le_trans h.2 h2⟩
theorem okAll {n w : Nat} : ∀ {ds : List PyData}, (∀ d ∈ ds, Okd n w d) → PyData.showableAll ds = true ∧ PyData.hasDictAll ds = false ∧ PyData.depthAll ds ≤ n ∧ PyData.leavesShortAll 13 ds = true ∧ PyData.canLayAll0 ds = true
  | [], _ => ⟨by simp only [PyData.showableAll], by simp only [PyData.hasDictAll], by simp only [PyData.depthAll]; exact Nat.zero_le _, by simp only [PyData.leavesShortAll], by simp only [PyData.canLayAll0]⟩
  | d :: ds, h => by
    obtain ⟨i1, i2, i3, i4, i5⟩ := okAll (ds := ds) fun e he => h e (List.mem_cons_of_mem _ he)
    have f := h d List.mem_cons_self
    refine ⟨?_, ?_, ?_, ?_, ?_⟩
    · simp only [PyData.showableAll, f.fit.sh, i1, Bool.and_self]
    · simp only [PyData.hasDictAll, f.fit.nd, i2, Bool.or_self]
    · simp only [PyData.depthAll]
      exact Nat.max_le.mpr ⟨f.fit.dp, i3⟩
    · simp only [PyData.leavesShortAll, f.fit.lv, i4, Bool.and_self]
    · simp only [PyData.canLayAll0, f.lay, i5, Bool.and_self]
theorem okd_list {n w : Nat} {ds : List PyData} (h : OkL n w ds) : Okd (n + 1) w (.list ds) := by
  obtain ⟨i1, i2, i3, i4, i5⟩ := okAll h.1
  exact ⟨⟨by simp only [PyData.showable, i1], by simp only [PyData.hasDict, i2], by simp only [PyData.depth]; omega, by simp only [PyData.leavesShort, i4], by simp only [PyData.weight]; exact h.2⟩, by simp only [PyData.canLay0, i5]⟩
theorem okd_tuple {n w : Nat} {ds : List PyData} (h : OkL n w ds) : Okd (n + 1) w (.tuple ds) := by
  obtain ⟨i1, i2, i3, i4, i5⟩ := okAll h.1
  exact ⟨⟨by simp only [PyData.showable, i1], by simp only [PyData.hasDict, i2], by simp only [PyData.depth]; omega, by simp only [PyData.leavesShort, i4], by simp only [PyData.weight]; exact h.2⟩, by simp only [PyData.canLay0, i5]⟩
theorem okAll_inv {n : Nat} : ∀ {ds : List PyData}, PyData.showableAll ds = true → PyData.hasDictAll ds = false → PyData.depthAll ds ≤ n → PyData.leavesShortAll 13 ds = true → PyData.canLayAll0 ds = true → ∀ d ∈ ds, Okd n (PyData.weightAll ds) d
  | [], _, _, _, _, _ => fun _ h => nomatch h
  | d :: ds, h1, h2, h3, h4, h5 => by
    simp only [PyData.showableAll, Bool.and_eq_true] at h1
    simp only [PyData.hasDictAll, Bool.or_eq_false_iff] at h2
    simp only [PyData.depthAll] at h3
    simp only [PyData.leavesShortAll, Bool.and_eq_true] at h4
    simp only [PyData.canLayAll0, Bool.and_eq_true] at h5
    have h3' := Nat.max_le.mp h3
    intro e he
    simp only [PyData.weightAll]
    rcases List.mem_cons.mp he with z | z
    · subst z
      exact ⟨⟨h1.1, h2.1, h3'.1, h4.1, by omega⟩, h5.1⟩
    · exact (okAll_inv h1.2 h2.2 h3'.2 h4.2 h5.2 e z).mono (Nat.le_refl _) (by omega)
theorem okd_items {n w : Nat} {ds : List PyData} (h : Okd (n + 1) w (.list ds) ∨ Okd (n + 1) w (.tuple ds)) : OkL n w ds := by
  rcases h with h | h
  all_goals
    obtain ⟨⟨a1, a2, a3, a4, a5⟩, a6⟩ := h
    simp only [PyData.showable] at a1
    simp only [PyData.hasDict] at a2
    simp only [PyData.depth] at a3
    simp only [PyData.leavesShort] at a4
    simp only [PyData.weight] at a5
    simp only [PyData.canLay0] at a6
    exact ⟨fun d hd => (okAll_inv a1 a2 (by omega) a4 a6 d hd).mono (Nat.le_refl _) a5, a5⟩
theorem okd_deep {n w : Nat} {ds : List PyData} (h : Okd n w (.list ds) ∨ Okd n w (.tuple ds)) : ∃ m, n = m + 1 := by
  rcases h with h | h
  all_goals
    have a := h.fit.dp
    simp only [PyData.depth] at a
    exact ⟨n - 1, by omega⟩
theorem weight_len : ∀ ds : List PyData, ds.length ≤ PyData.weightAll ds
  | [] => Nat.zero_le _
  | d :: ds => by
    have := weight_len ds
    simp only [PyData.weightAll, List.length_cons]
    omega
theorem weight_app : ∀ as bs : List PyData, PyData.weightAll (as ++ bs) = PyData.weightAll as + PyData.weightAll bs
  | [], bs => by simp only [List.nil_append, PyData.weightAll]; omega
  | a :: as, bs => by
    have := weight_app as bs
    simp only [List.cons_append, PyData.weightAll]
    omega
theorem weight_mem : ∀ {ds : List PyData} {d : PyData}, d ∈ ds → d.weight + 1 ≤ PyData.weightAll ds
  | [], _, h => nomatch h
  | e :: ds, d, h => by
    simp only [PyData.weightAll]
    rcases List.mem_cons.mp h with z | z
    · rw [z]
      omega
    · have := weight_mem z
      omega
theorem weight_set_at : ∀ (ds : List PyData) (i : Nat) (d e : PyData), ds[i]? = some e → PyData.weightAll (ds.set i d) + e.weight = PyData.weightAll ds + d.weight
  | [], _, _, _, h => by simp at h
  | e :: ds, 0, d, e', h => by
    cases h
    simp only [List.set_cons_zero, PyData.weightAll]
    omega
  | e :: ds, i + 1, d, e', h => by
    have := weight_set_at ds i d e' h
    simp only [List.set_cons_succ, PyData.weightAll]
    omega
theorem weight_rev (ds : List PyData) : PyData.weightAll ds.reverse = PyData.weightAll ds := by
  induction ds with
  | nil => rfl
  | cons d ds ih =>
    rw [List.reverse_cons, weight_app, ih]
    simp only [PyData.weightAll]
    omega
theorem weight_cut (ds : List PyData) (n : Nat) : PyData.weightAll (ds.take n) + PyData.weightAll (ds.drop n) = PyData.weightAll ds := by
  rw [← weight_app, List.take_append_drop]
theorem okd_none {n w : Nat} : Okd n w .none := ⟨fit_none.mono (Nat.zero_le _) (Nat.zero_le _), by simp only [PyData.canLay0]⟩
theorem okd_bool {n w : Nat} (b : Bool) : Okd n w (.bool b) := ⟨(fit_bool b).mono (Nat.zero_le _) (Nat.zero_le _), by simp only [PyData.canLay0]⟩
theorem okd_int {n w : Nat} {i : Int} (h : i.natAbs < 10 ^ 12) (hw : 40 ≤ w) : Okd n w (.int i) := ⟨(fit_int h).mono (Nat.zero_le _) hw, by simp only [PyData.canLay0]⟩
theorem okd_str {n w : Nat} {x : Str} (h : Good x) (hw : x.length ≤ w) : Okd n w (.str x) := ⟨(fit_str h (Nat.le_refl _)).mono (Nat.zero_le _) hw, by simp only [PyData.canLay0]; exact h⟩
/-! ### of what kind it is -/
def kOf : PyData → String
  | .none => "NoneType"
  | .bool _ => "bool"
  | .int _ => "int"
  | .str _ => "str"
  | .list _ => "list"
  | .tuple _ => "tuple"
  | .dict _ => "dict"
def isL : PyData → Bool
  | .list _ => true
  | _ => false
def isT : PyData → Bool
  | .tuple _ => true
  | _ => false
def isS : PyData → Bool
  | .str _ => true
  | _ => false
theorem Tr.ty {K : PySem.W.Frag} {bad : Addr → Prop} {H : Hp} : ∀ {d : PyData} {v : V}, Tr bad H d v → TyX K H v (.type (kOf d))
  | .none, _, h => by simp only [Tr] at h; subst h; exact .base .non
  | .bool _, _, h => by simp only [Tr] at h; subst h; exact .base (.bl _)
  | .int _, _, h => by simp only [Tr] at h; subst h; exact .base (.int _)
  | .str _, _, h => by simp only [Tr] at h; subst h; exact .base (.str _)
  | .list ds, v, h => by
    simp only [Tr] at h
    obtain ⟨a, xs, rfl, n, h1, h2⟩ := h
    exact .base (.lst h1)
  | .tuple ds, v, h => by
    simp only [Tr] at h
    obtain ⟨a, xs, rfl, n, h1, h2⟩ := h
    exact h1.ty
  | .dict _, _, h => by simp only [Tr] at h
theorem isi_L {K : PySem.W.Frag} : ∀ d : PyData, PySem.W.kitOne K (.type (kOf d)) (.type "list") = some (isL d)
  | .none => kit_ty (a := "NoneType") (b := "list") (r := false) (by decide +kernel)
  | .bool _ => kit_ty (a := "bool") (b := "list") (r := false) (by decide +kernel)
  | .int _ => kit_ty (a := "int") (b := "list") (r := false) (by decide +kernel)
  | .str _ => kit_ty (a := "str") (b := "list") (r := false) (by decide +kernel)
  | .list _ => kit_ty (a := "list") (b := "list") (r := true) (by decide +kernel)
  | .tuple _ => kit_ty (a := "tuple") (b := "list") (r := false) (by decide +kernel)
  | .dict _ => kit_ty (a := "dict") (b := "list") (r := false) (by decide +kernel)
theorem isi_T {K : PySem.W.Frag} : ∀ d : PyData, PySem.W.kitOne K (.type (kOf d)) (.type "tuple") = some (isT d)
  | .none => kit_ty (a := "NoneType") (b := "tuple") (r := false) (by decide +kernel)
  | .bool _ => kit_ty (a := "bool") (b := "tuple") (r := false) (by decide +kernel)
  | .int _ => kit_ty (a := "int") (b := "tuple") (r := false) (by decide +kernel)
  | .str _ => kit_ty (a := "str") (b := "tuple") (r := false) (by decide +kernel)
  | .list _ => kit_ty (a := "list") (b := "tuple") (r := false) (by decide +kernel)
  | .tuple _ => kit_ty (a := "tuple") (b := "tuple") (r := true) (by decide +kernel)
  | .dict _ => kit_ty (a := "dict") (b := "tuple") (r := false) (by decide +kernel)
theorem isi_S {K : PySem.W.Frag} : ∀ d : PyData, PySem.W.kitOne K (.type (kOf d)) (.type "str") = some (isS d)
  | .none => kit_ty (a := "NoneType") (b := "str") (r := false) (by decide +kernel)
  | .bool _ => kit_ty (a := "bool") (b := "str") (r := false) (by decide +kernel)
  | .int _ => kit_ty (a := "int") (b := "str") (r := false) (by decide +kernel)
  | .str _ => kit_ty (a := "str") (b := "str") (r := true) (by decide +kernel)
  | .list _ => kit_ty (a := "list") (b := "str") (r := false) (by decide +kernel)
  | .tuple _ => kit_ty (a := "tuple") (b := "str") (r := false) (by decide +kernel)
  | .dict _ => kit_ty (a := "dict") (b := "str") (r := false) (by decide +kernel)
theorem isi_LT {K : PySem.W.Frag} (d : PyData) : PySem.W.kitAny K (.type (kOf d)) [.type "list", .type "tuple"] = some (isL d || isT d) := by
  refine kitAny_cons (isi_L d) (fun e => ?_) (fun e => by rw [e]; rfl)
  rw [e, Bool.false_or]
  exact kitAny_cons (isi_T d) (fun e => by rw [e]; exact kitAny_nil) (fun e => e)
/-- a list or a tuple, with its items -/
theorem Tr.items {bad : Addr → Prop} {H : Hp} : ∀ {d : PyData} {v : V}, (isL d || isT d) = true → Tr bad H d v → ∃ ds a xs, (d = .list ds ∨ d = .tuple ds) ∧ v = .ref a ∧ ¬ bad a ∧ (H a = some (.lst xs) ∨ TupX H a xs) ∧ TrAll bad H ds xs
  | .list ds, v, _, h => by
    simp only [Tr] at h
    obtain ⟨a, xs, rfl, n, h1, h2⟩ := h
    exact ⟨ds, a, xs, .inl rfl, rfl, n, .inl h1, h2⟩
  | .tuple ds, v, _, h => by
    simp only [Tr] at h
    obtain ⟨a, xs, rfl, n, h1, h2⟩ := h
    exact ⟨ds, a, xs, .inr rfl, rfl, n, .inr h1, h2⟩
  | .none, _, e, _ => nomatch e
  | .bool _, _, e, _ => nomatch e
  | .int _, _, e, _ => nomatch e
  | .str _, _, e, _ => nomatch e
  | .dict _, _, e, _ => nomatch e
theorem seq_sq {K : PySem.W.Frag} {H : Hp} {a : Addr} {xs : List V} (h : H a = some (.lst xs) ∨ TupX H a xs) : SqL K H a xs ∨ SqT K H a xs := h.elim (fun e => .inl (.inl (.inl e))) fun e => .inr e.sq
def lenD : PyData → Nat
  | .list ds => ds.length
  | .tuple ds => ds.length
  | _ => 0
mutual
/-- the most items on any level -/
def widD : PyData → Nat
  | .list ds => max ds.length (widAll ds)
  | .tuple ds => max ds.length (widAll ds)
  | .none => 0
  | .bool _ => 0
  | .int _ => 0
  | .str _ => 0
  | .dict _ => 0
def widAll : List PyData → Nat
  | [] => 0
  | d :: ds => max (widD d) (widAll ds)
end
theorem widAll_le {n : Nat} : ∀ {ds : List PyData}, (∀ d ∈ ds, widD d ≤ n) → widAll ds ≤ n
  | [], _ => by simp only [widAll]; exact Nat.zero_le _
  | d :: ds, h => by
    simp only [widAll]
    exact Nat.max_le.mpr ⟨h d List.mem_cons_self, widAll_le fun e he => h e (List.mem_cons_of_mem _ he)⟩
theorem widAll_mem : ∀ {ds : List PyData} {d : PyData}, d ∈ ds → widD d ≤ widAll ds
  | [], _, h => nomatch h
  | e :: ds, d, h => by
    simp only [widAll]
    rcases List.mem_cons.mp h with z | z
    · rw [z]
      exact Nat.le_max_left _ _
    · exact Nat.le_trans (widAll_mem z) (Nat.le_max_right _ _)
theorem wid_of {n : Nat} {d : PyData} {ds : List PyData} (e : d = .list ds ∨ d = .tuple ds) (h1 : ds.length ≤ n) (h2 : ∀ c ∈ ds, widD c ≤ n) : widD d ≤ n := by
  rcases e with e | e <;> subst e <;> simp only [widD] <;> exact Nat.max_le.mpr ⟨h1, widAll_le h2⟩
theorem wid_len {d : PyData} {ds : List PyData} (e : d = .list ds ∨ d = .tuple ds) : ds.length ≤ widD d := by
  rcases e with e | e <;> subst e <;> simp only [widD] <;> exact Nat.le_max_left _ _
theorem wid_item {d c : PyData} {ds : List PyData} (e : d = .list ds ∨ d = .tuple ds) (h : c ∈ ds) : widD c ≤ widD d := by
  rcases e with e | e <;> subst e <;> simp only [widD] <;> exact Nat.le_trans (widAll_mem h) (Nat.le_max_right _ _)
/-! ### what a thing is bent to -/
theorem old_oth {bad : Addr → Prop} {b : Addr} {H H' : Hp} (old : ∀ a, bad a → H a ≠ none) (o : Oth b H H') (hb : IsBox H' b) : ∀ a, bad a → H' a ≠ none := fun a h z => by
  by_cases e : a = b
  · obtain ⟨_, _, _, hb⟩ := hb
    rw [← e, z] at hb
    cases hb
  · obtain ⟨u, hu⟩ := Option.ne_none_iff_exists'.mp (old a h)
    rw [o a u e hu] at z
    cases z
theorem old_new {bad : Addr → Prop} {H : Hp} {s : Addr} (old : ∀ a, bad a → H a ≠ none) (h : H s = none) : ¬ bad s := fun z => old s z h
theorem good9 : Good "" ∧ Good "come" ∧ Good "serve" ∧ Good "friend" ∧ Good "behind" ∧ Good "between" := by
  refine ⟨?_, ?_, ?_, ?_, ?_, ?_⟩ <;> (show PyData.strOk _ = true; decide +kernel)
theorem tr_str {bad : Addr → Prop} {H : Hp} (x : Str) : Tr bad H (.str x) (.str x) := by simp only [Tr]
theorem tr_tup {bad : Addr → Prop} {H : Hp} {t : Addr} {ds : List PyData} {xs : List V} (n : ¬ bad t) (h : TupX H t xs) (tx : TrAll bad H ds xs) : Tr bad H (.tuple ds) (.ref t) := by
  simp only [Tr]
  exact ⟨t, xs, rfl, n, h, tx⟩
theorem tr_lst {bad : Addr → Prop} {H : Hp} {t : Addr} {ds : List PyData} {xs : List V} (n : ¬ bad t) (h : H t = some (.lst xs)) (tx : TrAll bad H ds xs) : Tr bad H (.list ds) (.ref t) := by
  simp only [Tr]
  exact ⟨t, xs, rfl, n, h, tx⟩
theorem depth_mem : ∀ {ds : List PyData} {d : PyData}, d ∈ ds → d.depth ≤ PyData.depthAll ds
  | [], _, h => nomatch h
  | e :: ds, d, h => by
    simp only [PyData.depthAll]
    rcases List.mem_cons.mp h with z | z
    · rw [z]
      exact Nat.le_max_left _ _
    · exact Nat.le_trans (depth_mem z) (Nat.le_max_right _ _)
theorem depth_item {d e : PyData} {ds : List PyData} (h : d = .list ds ∨ d = .tuple ds) (m : e ∈ ds) : e.depth < d.depth := by
  have := depth_mem m
  rcases h with h | h <;> subst h <;> simp only [PyData.depth] <;> omega
theorem Okd.self {n w : Nat} {d : PyData} (h : Okd n w d) : Okd n d.weight d := ⟨⟨h.fit.sh, h.fit.nd, h.fit.dp, h.fit.lv, Nat.le_refl _⟩, h.lay⟩
theorem Okd.of {n w : Nat} {d : PyData} (h : Okd n w d) {w' : Nat} (hw : d.weight ≤ w') : Okd n w' d := h.self.mono (Nat.le_refl _) hw
theorem OkL.of {n w w' : Nat} {ds : List PyData} (h : ∀ d ∈ ds, Okd n w d) (hw : PyData.weightAll ds ≤ w') : OkL n w' ds := ⟨fun d hd => (h d hd).of (by have := weight_mem hd; omega), hw⟩
theorem ixN_k {n k : Nat} (h : k < n) : ixN n (k : Int) = some k := by
  unfold ixN
  rw [if_pos (by omega), if_pos (by omega)]
  simp
/-! ### the same by kind and value -/
def isI : PyData → Bool
  | .bool _ => true
  | .int _ => true
  | _ => false
theorem isi_I {K : PySem.W.Frag} : ∀ d : PyData, PySem.W.kitOne K (.type (kOf d)) (.type "int") = some (isI d)
  | .none => kit_ty (a := "NoneType") (b := "int") (r := false) (by decide +kernel)
  | .bool _ => kit_ty (a := "bool") (b := "int") (r := true) (by decide +kernel)
  | .int _ => kit_ty (a := "int") (b := "int") (r := true) (by decide +kernel)
  | .str _ => kit_ty (a := "str") (b := "int") (r := false) (by decide +kernel)
  | .list _ => kit_ty (a := "list") (b := "int") (r := false) (by decide +kernel)
  | .tuple _ => kit_ty (a := "tuple") (b := "int") (r := false) (by decide +kernel)
  | .dict _ => kit_ty (a := "dict") (b := "int") (r := false) (by decide +kernel)
open Classical in
theorem is_str {d : PyData} (h : isS d = true) : ∃ s, d = .str s := by cases d <;> simp_all [isS]
/-! ### deeds of any shape -/
def nmB : PyData → Bool
  | .str x => nb x
  | _ => false
def spIsNmD : Sp := fun vs H Q _ => ∃ (v : V) (bad : Addr → Prop) (d : PyData), vs = [v] ∧ Tr bad H d v ∧ d.weight ≤ 20000 ∧ ∀ H', Same H H' → Q (.bl (nmB d)) H'
theorem shaped_of {n w : Nat} {d : PyData} (h : Okd n w d) (hn : n ≤ 60) : SeqAt.shaped d = true := by
  unfold SeqAt.shaped
  rw [h.lay, Bool.true_and]
  exact decide_eq_true (by have := h.fit.dp; omega)
theorem TrAll.at {bad : Addr → Prop} {H : Hp} {ds : List PyData} {xs : List V} (h : TrAll bad H ds xs) {i : Nat} {d : PyData} {x : V} (e1 : ds[i]? = some d) (e2 : xs[i]? = some x) : Tr bad H d x := (trAll_iff.mp h).2 i d x e1 e2
theorem TrAll.strs_eq {bad : Addr → Prop} {H : Hp} : ∀ {l : List Str} {xs : List V}, TrAll bad H (l.map .str) xs → xs = l.map V.str
  | [], xs, h => by
    simp only [List.map_nil, TrAll] at h
    rw [h]
    rfl
  | x :: l, xs, h => by
    simp only [List.map_cons, TrAll] at h
    obtain ⟨y, r, rfl, h1, h2⟩ := h
    simp only [Tr] at h1
    rw [h1, h2.strs_eq]
    rfl
theorem range_map {α : Type} (f : α → Bool) (xs : List α) (g : Nat → Bool) (h : ∀ i x, xs[i]? = some x → g i = f x) : ((List.range xs.length).map g).all id = xs.all f := by
  rw [Bool.eq_iff_iff, List.all_eq_true, List.all_eq_true]
  constructor
  · intro k x hx
    obtain ⟨i, hi⟩ := List.getElem?_of_mem hx
    rw [← h i x hi]
    exact k _ (List.mem_map.mpr ⟨i, List.mem_range.mpr (List.getElem?_eq_some_iff.mp hi).1, rfl⟩)
  · intro k b hb
    obtain ⟨i, hi, rfl⟩ := List.mem_map.mp hb
    have hi := List.mem_range.mp hi
    show g i = true
    rw [h i _ (List.getElem?_eq_getElem hi)]
    exact k _ (List.getElem_mem hi)
end Lk
set_option maxRecDepth 100000
set_option maxHeartbeats 4000000
namespace Lk
open PySem PySem.Spec PyProof.Rows L2
/-! ### one clause of a comprehension, by what one turn of it does -/
/-! ### {k: v for .. in .. for .. in ..} -/
section
variable {kx vx t0 i0 t1 i1 : Expr} {f0 f1 : List Expr} {scope : Scope} {pos : Pos}
end
section
variable {X : Cx}
end
end Lk
set_option maxRecDepth 100000
set_option maxHeartbeats 4000000
namespace Lk
open PySem PySem.Spec PyProof.Rows L2
/-! ### a class of one's own: its objects, their methods -/
section
variable {X : Cx} {k n : Nat} {f C : Addr} {fd : FuncData} {ps : List Str} {sp : Sp} {x m : Str} {p pos apos : Pos} {o e : Expr} {es : List Expr} {ta : TE} {t : TA}
theorem Room.make {A : Around} (z : Room (k + 1) A) (C : Addr) (us : List Value) (kw : List (Str × Value)) : Room k (A.under (.builtin "type.__call__" ⟨.ref C :: us, kw⟩)) := ⟨z.rm.make C us kw, by
  have := z.gd
  first
    | exact this
    | simpa [Around.under] using this⟩
end
end Lk
set_option maxRecDepth 100000
set_option maxHeartbeats 4000000
namespace Lk
open PySem PySem.Spec PyProof.Rows L2
/-! ### how early, how late -/
end Lk
set_option maxRecDepth 100000
set_option maxHeartbeats 4000000
namespace Lk
open PySem PySem.Spec PyProof.Rows L2
section
variable {X : Cx}
/-! ### keys of a dict, that walked before or not -/
end
/-! ### who came behind whom, all of it new -/
def BehRd (H : Hp) (qs : List B4) : Prop := ∀ q ∈ qs, Rd H q.2.1 (.dK (trueK q.2.2))
theorem BehRd.same {H H' : Hp} {qs : List B4} (s : Same H H') (h : BehRd H qs) : BehRd H' qs := fun q hq => (h q hq).elim (fun e => .inl (s _ _ e)) fun ⟨o, e⟩ => .inr ⟨o, s _ _ e⟩
theorem BehRd.lst {H : Hp} {qs : List B4} {L : Addr} {ys : List V} {o : HO} (hL : H L = some (.lst ys)) (h : BehRd H qs) : BehRd (upd H L o) qs := fun q hq => (h q hq).elim
  (fun e => .inl ((upd_ne (ne_of e hL (fun z => nomatch z))).trans e)) fun ⟨o, e⟩ => .inr ⟨o, (upd_ne (ne_of e hL (fun z => nomatch z))).trans e⟩
theorem BehRd.frz {H : Hp} {qs : List B4} {d : Addr} {kvs : List (Key × V)} {od : Obj} (hd : H d = some (.dK kvs)) (h : BehRd H qs) : BehRd (upd H d (.frz od (.dK kvs))) qs := fun q hq => by
  by_cases c : q.2.1 = d
  · rcases h q hq with e | ⟨o, e⟩
    · rw [c, hd] at e
      rw [c]
      exact .inr ⟨od, by rw [upd_same, Option.some.inj e]⟩
    · rw [c, hd] at e
      cases e
  · exact (h q hq).elim (fun e => .inl ((upd_ne c).trans e)) fun ⟨o, e⟩ => .inr ⟨o, (upd_ne c).trans e⟩
/-! ### a chain of who bars the next -/
theorem nexts_get {bs : List B3} {l : Str} {i : Nat} (h : i < bs.length) : (nextsL bs l)[i]? = (bs.map (·.2.1) ++ [l])[i + 1]? := by
  unfold nextsL
  cases bs with
  | nil => cases h
  | cons b r => rfl
def ChainTo (ps : List (Str × Str)) (row : List Str) (one who : Str) (bs : List B3) : Prop :=
  (bs.map (·.2.1) ++ [who])[0]? = some one ∧ (∀ b ∈ bs, b.2.1 ∈ row) ∧ (bs.map (·.2.1)).Nodup ∧ ∀ (i : Nat) (c : B3) (y : Str), bs[i]? = some c → (nextsL bs who)[i]? = some y → c.2.2 ∈ wordsAt ps row c.2.1 y
theorem ChainTo.nil {ps : List (Str × Str)} {row : List Str} {one : Str} : ChainTo ps row one one [] := ⟨rfl, (fun _ h => nomatch h), List.nodup_nil, fun i c y h => by rw [List.getElem?_nil] at h; cases h⟩
theorem ChainTo.step {ps : List (Str × Str)} {row : List Str} {one who later w : Str} {bs : List B3} {t : Addr} (h : ChainTo ps row one who bs) (hw : who ∈ row) (nw : who ∉ bs.map (·.2.1)) (hb : w ∈ wordsAt ps row who later) : ChainTo ps row one later (bs ++ [(t, who, w)]) := by
  obtain ⟨h1, h2, h3, h4⟩ := h
  refine ⟨?_, fun b hb' => ?_, ?_, fun i c y hc hy => ?_⟩
  · rw [List.map_append]
    cases bs with
    | nil => exact h1
    | cons b r => exact h1
  · rcases List.mem_append.mp hb' with z | z
    · exact h2 b z
    · rw [List.mem_singleton.mp z]
      exact hw
  · rw [List.map_append]
    exact ((List.perm_append_singleton who (bs.map (·.2.1))).nodup_iff).mpr (List.nodup_cons.mpr ⟨nw, h3⟩)
  · have hi : i < (bs ++ [(t, who, w)]).length := (List.getElem?_eq_some_iff.mp hc).1
    rw [nexts_get hi] at hy
    rw [List.length_append] at hi
    have hi : i < bs.length + 1 := hi
    by_cases c1 : i < bs.length
    · rw [List.getElem?_append_left c1] at hc
      refine h4 i c y hc ?_
      rw [nexts_get c1, ← hy, List.map_append]
      have e : ((bs.map (·.2.1) ++ [who]) ++ [later])[i + 1]? = (bs.map (·.2.1) ++ [who])[i + 1]? := List.getElem?_append_left (by rw [List.length_append, List.length_map]; show i + 1 < bs.length + 1; omega)
      exact e.symm
    · have ei : i = bs.length := by omega
      subst ei
      rw [List.getElem?_append_right (Nat.le_refl _), Nat.sub_self] at hc
      cases hc
      rw [List.map_append, List.append_assoc, List.getElem?_append_right (by rw [List.length_map]; omega), List.length_map, show bs.length + 1 - bs.length = 1 by omega] at hy
      cases hy
      exact hb
/-! ### what the law has beside it -/
def wK (E L B Pr : Addr) : List (Key × V) := [((.inr "early" : Key), .ref E), (.inr "late", .ref L), (.inr "bounds", .ref B), (.inr "pairs", .ref Pr)]
def OrdsAt (H : Hp) (D : Addr) (f : Str → List Str) (row : List Str) (n : Nat) : Prop := ∃ kvs, H D = some (.dK kvs) ∧ kvs.length ≤ n ∧ ∀ x ∈ row.take n, ∃ la, valV kvs (.inr x) = some (.ref la) ∧ H la = some (.lst ((f x).map V.str))
theorem OrdsAt.same {H H' : Hp} {D : Addr} {f : Str → List Str} {row : List Str} {n : Nat} (s : Same H H') (h : OrdsAt H D f row n) : OrdsAt H' D f row n := by
  obtain ⟨kvs, h1, h2, h3⟩ := h
  refine ⟨kvs, s _ _ h1, h2, fun x hx => ?_⟩
  obtain ⟨la, e1, e2⟩ := h3 x hx
  exact ⟨la, e1, s _ _ e2⟩
/-- another dict is written -/
theorem OrdsAt.oth {H : Hp} {D d : Addr} {f : Str → List Str} {row : List Str} {n : Nat} {kvs : List (Key × V)} {o : HO} (ne : D ≠ d) (hd : H d = some (.dK kvs)) (h : OrdsAt H D f row n) : OrdsAt (upd H d o) D f row n := by
  obtain ⟨kvs', h1, h2, h3⟩ := h
  refine ⟨kvs', (upd_ne ne).trans h1, h2, fun x hx => ?_⟩
  obtain ⟨la, e1, e2⟩ := h3 x hx
  exact ⟨la, e1, (upd_ne (ne_of e2 hd (fun z => nomatch z))).trans e2⟩
theorem OrdsAt.put {H : Hp} {D la : Addr} {f : Str → List Str} {row : List Str} {i : Nat} {x : Str} (hd : row.Nodup) (hx : row[i]? = some x) (h : OrdsAt H D f row i) (hl : H la = some (.lst ((f x).map V.str))) :
    ∃ kvs, H D = some (.dK kvs) ∧ kvs.length ≤ i ∧ OrdsAt (upd H D (.dK (putK kvs (.inr x) (.ref la)))) D f row (i + 1) := by
  obtain ⟨kvs, h1, h2, h3⟩ := h
  refine ⟨kvs, h1, h2, putK kvs (.inr x) (.ref la), upd_same, ?_, fun y hy => ?_⟩
  · have := putK_lenK (kvs := kvs) (k := .inr x) (v := V.ref la)
    omega
  · rw [valV_put]
    rw [List.take_add_one, hx] at hy
    by_cases c : y = x
    · subst c
      rw [if_pos rfl]
      exact ⟨la, rfl, (upd_ne (ne_of hl h1 (fun z => nomatch z))).trans hl⟩
    · rw [if_neg (fun z => c (Sum.inr.inj z))]
      rcases List.mem_append.mp hy with z | z
      · obtain ⟨lb, e1, e2⟩ := h3 y z
        exact ⟨lb, e1, (upd_ne (ne_of e2 h1 (fun z => nomatch z))).trans e2⟩
      · exact absurd (List.mem_singleton.mp z) c
def BndAt (H : Hp) (D : Addr) (ps : List (Str × Str)) (row : List Str) (n : Nat) : Prop := ∃ kvs, H D = some (.dK kvs) ∧ kvs.length ≤ n ∧ ∀ (i : Nat) (x : Str), i < n → row[i]? = some x → ∃ t, valV kvs (.inr x) = some (.ref t) ∧ H t = some (.tup [.int (leastN ps row x i : Nat), .int (mostN ps row x i : Nat)])
theorem BndAt.same {H H' : Hp} {D : Addr} {ps : List (Str × Str)} {row : List Str} {n : Nat} (s : Same H H') (h : BndAt H D ps row n) : BndAt H' D ps row n := by
  obtain ⟨kvs, h1, h2, h3⟩ := h
  refine ⟨kvs, s _ _ h1, h2, fun i x hi hx => ?_⟩
  obtain ⟨la, e1, e2⟩ := h3 i x hi hx
  exact ⟨la, e1, s _ _ e2⟩
theorem BndAt.oth {H : Hp} {D d : Addr} {ps : List (Str × Str)} {row : List Str} {n : Nat} {kvs : List (Key × V)} {o : HO} (ne : D ≠ d) (hd : H d = some (.dK kvs)) (h : BndAt H D ps row n) : BndAt (upd H d o) D ps row n := by
  obtain ⟨kvs', h1, h2, h3⟩ := h
  refine ⟨kvs', (upd_ne ne).trans h1, h2, fun i x hi hx => ?_⟩
  obtain ⟨la, e1, e2⟩ := h3 i x hi hx
  exact ⟨la, e1, (upd_ne (ne_of e2 hd (fun z => nomatch z))).trans e2⟩
theorem BndAt.put {H : Hp} {D t : Addr} {ps : List (Str × Str)} {row : List Str} {i : Nat} {x : Str} (hd : row.Nodup) (hx : row[i]? = some x) (h : BndAt H D ps row i) (hl : H t = some (.tup [.int (leastN ps row x i : Nat), .int (mostN ps row x i : Nat)])) :
    ∃ kvs, H D = some (.dK kvs) ∧ kvs.length ≤ i ∧ BndAt (upd H D (.dK (putK kvs (.inr x) (.ref t)))) D ps row (i + 1) := by
  obtain ⟨kvs, h1, h2, h3⟩ := h
  refine ⟨kvs, h1, h2, putK kvs (.inr x) (.ref t), upd_same, ?_, fun j y hj hy => ?_⟩
  · have := putK_lenK (kvs := kvs) (k := .inr x) (v := V.ref t)
    omega
  · rw [valV_put]
    by_cases c : y = x
    · subst c
      have := nd_ix hd hx hy
      subst this
      rw [if_pos rfl]
      exact ⟨t, rfl, (upd_ne (ne_of hl h1 (fun z => nomatch z))).trans hl⟩
    · rw [if_neg (fun z => c (Sum.inr.inj z))]
      have : j ≠ i := fun z => by
        subst z
        rw [hx] at hy
        exact c (Option.some.inj hy).symm
      obtain ⟨lb, e1, e2⟩ := h3 j y (by omega) hy
      exact ⟨lb, e1, (upd_ne (ne_of e2 h1 (fun z => nomatch z))).trans e2⟩
def PrAt (H : Hp) (D : Addr) (ps : List (Str × Str)) (row : List Str) : Prop := ∃ kvs, H D = some (.dT kvs) ∧ ∀ x y, (valV kvs (k2 x y)).isSome = leadsB ps row x y
theorem PrAt.same {H H' : Hp} {D : Addr} {ps : List (Str × Str)} {row : List Str} (s : Same H H') (h : PrAt H D ps row) : PrAt H' D ps row := by
  obtain ⟨kvs, h1, h2⟩ := h
  exact ⟨kvs, s _ _ h1, h2⟩
/-- all that the law has beside it, so far -/
def WSt (H1 H' : Hp) (wd E L Bn Pr : Addr) (ps : List (Str × Str)) (row ord : List Str) (nO nB : Nat) : Prop :=
  Same H1 H' ∧ H' wd = some (.dK (wK E L Bn Pr)) ∧ OrdsAt H' E (earlyO ps row ord) row nO ∧ OrdsAt H' L (lateO ps row ord) row nO ∧ BndAt H' Bn ps row nB ∧ PrAt H' Pr ps row
theorem WSt.same {H1 H' H'' : Hp} {wd E L Bn Pr : Addr} {ps : List (Str × Str)} {row ord : List Str} {nO nB : Nat} (s : Same H' H'') (h : WSt H1 H' wd E L Bn Pr ps row ord nO nB) : WSt H1 H'' wd E L Bn Pr ps row ord nO nB :=
  ⟨h.1.trans s, s _ _ h.2.1, h.2.2.1.same s, h.2.2.2.1.same s, h.2.2.2.2.1.same s, h.2.2.2.2.2.same s⟩
theorem PrAt.oth {H : Hp} {D d : Addr} {ps : List (Str × Str)} {row : List Str} {o : HO} (ne : D ≠ d) (h : PrAt H D ps row) : PrAt (upd H d o) D ps row := by
  obtain ⟨kvs', h1, h2⟩ := h
  exact ⟨kvs', (upd_ne ne).trans h1, h2⟩
theorem OrdsAt.box {H H' : Hp} {b D : Addr} {f : Str → List Str} {row : List Str} {n : Nat} (s : Oth b H H') (hb : IsBox H b) (h : OrdsAt H D f row n) : OrdsAt H' D f row n := by
  obtain ⟨kvs, h1, h2, h3⟩ := h
  obtain ⟨x, y, z, e⟩ := hb
  refine ⟨kvs, s _ _ (ne_of h1 e (fun z => nomatch z)) h1, h2, fun w hw => ?_⟩
  obtain ⟨la, e1, e2⟩ := h3 w hw
  exact ⟨la, e1, s _ _ (IsBox.ne_strs ⟨x, y, z, e⟩ e2) e2⟩
theorem PrAt.box {H H' : Hp} {b D : Addr} {ps : List (Str × Str)} {row : List Str} (s : Oth b H H') (hb : IsBox H b) (h : PrAt H D ps row) : PrAt H' D ps row := by
  obtain ⟨kvs, h1, h2⟩ := h
  exact ⟨kvs, s _ _ (hb.ne_dT h1) h1, h2⟩
end Lk
set_option maxRecDepth 100000
set_option maxHeartbeats 4000000
namespace Lk
open PySem PySem.Spec PyProof.Rows L2
/-! ### a bunch of people as a number -/
def mkN : List Str → (Str → Bool) → Nat
  | [], _ => 0
  | x :: r, p => (if p x = true then 1 else 0) + 2 * mkN r p
theorem mkN_congr : ∀ {ks : List Str} {p q : Str → Bool}, (∀ x ∈ ks, p x = q x) → mkN ks p = mkN ks q
  | [], _, _, _ => rfl
  | x :: r, p, q, h => by
    unfold mkN
    rw [h x List.mem_cons_self, mkN_congr fun y hy => h y (List.mem_cons_of_mem _ hy)]
theorem mkN_lt : ∀ (ks : List Str) (p : Str → Bool), mkN ks p < 2 ^ ks.length
  | [], _ => by simp [mkN]
  | x :: r, p => by
    have := mkN_lt r p
    unfold mkN
    rw [List.length_cons, Nat.pow_succ]
    split <;> omega
theorem mkN_test : ∀ (ks : List Str) (p : Str → Bool) (i : Nat), (mkN ks p).testBit i = (match ks[i]? with | some x => p x | none => false)
  | [], _, i => by simp [mkN]
  | x :: r, p, 0 => by
    unfold mkN
    rw [Nat.testBit_zero]
    show decide (_ % 2 = 1) = p x
    cases e : p x with
    | true => simp
    | false => simp
  | x :: r, p, i + 1 => by
    unfold mkN
    rw [Nat.testBit_succ, List.getElem?_cons_succ, ← mkN_test r p i]
    congr 1
    split <;> omega
/-- who is in the bunch n -/
def prN (ks : List Str) (n : Nat) (x : Str) : Bool := n.testBit (ks.idxOf x)
theorem pr_mkN {ks : List Str} {p : Str → Bool} {x : Str} (hx : x ∈ ks) : prN ks (mkN ks p) x = p x := by
  unfold prN
  rw [mkN_test, List.getElem?_eq_getElem (List.idxOf_lt_length_iff.mpr hx)]
  show p _ = _
  rw [List.getElem_idxOf]
theorem mkN_pr {ks : List Str} (nd : ks.Nodup) {n : Nat} (h : n < 2 ^ ks.length) : mkN ks (prN ks n) = n := by
  refine Nat.eq_of_testBit_eq fun i => ?_
  rw [mkN_test]
  cases e : ks[i]? with
  | some x =>
    show n.testBit _ = _
    rw [idx_at nd e]
  | none =>
    have hi : ks.length ≤ i := List.getElem?_eq_none_iff.mp e
    exact (Nat.testBit_lt_two_pow (Nat.lt_of_lt_of_le h (Nat.pow_le_pow_right (by decide) hi))).symm
/-- the bit of one -/
def bitN (ks : List Str) (x : Str) : Nat := 2 ^ ks.idxOf x
theorem mkN_add : ∀ {ks : List Str} {p : Str → Bool} {x : Str}, ks.Nodup → x ∈ ks → p x = false → mkN ks (fun z => p z || z == x) = mkN ks p + bitN ks x
  | [], _, _, _, h, _ => nomatch h
  | y :: r, p, x, nd, hx, hp => by
    obtain ⟨n1, n2⟩ := List.nodup_cons.mp nd
    unfold mkN bitN
    by_cases c : y = x
    · subst c
      rw [List.idxOf_cons_self, hp, mkN_congr (p := fun z => p z || z == y) (q := p) fun z hz => ?_]
      · simp
        omega
      · have : z ≠ y := fun e => n1 (e ▸ hz)
        simp [this]
    · have hr : x ∈ r := (List.mem_cons.mp hx).resolve_left fun e => c e.symm
      have ih := mkN_add n2 hr hp
      unfold bitN at ih
      rw [List.idxOf_cons, beq_false_of_ne c, ih]
      simp [Nat.pow_succ, c]
      omega
/-! ### in how many ways the others can come -/
def nxtL (ks : List Str) (bar : Str → Str → Bool) (p : Str → Bool) : List Str := ks.filter fun x => !p x && ks.all fun y => !bar y x || p y
def waysN (ks : List Str) (bar : Str → Str → Bool) : Nat → (Str → Bool) → Nat
  | 0, _ => 1
  | k + 1, p => ((nxtL ks bar p).map fun x => waysN ks bar k fun z => p z || z == x).sum
theorem nxtL_mem {ks : List Str} {bar : Str → Str → Bool} {p : Str → Bool} {x : Str} : x ∈ nxtL ks bar p ↔ x ∈ ks ∧ p x = false ∧ ∀ y ∈ ks, bar y x = true → p y = true := by
  unfold nxtL
  rw [List.mem_filter, Bool.and_eq_true, Bool.not_eq_true', List.all_eq_true]
  refine ⟨fun ⟨h1, h2, h3⟩ => ⟨h1, h2, fun y hy hb => ?_⟩, fun ⟨h1, h2, h3⟩ => ⟨h1, h2, fun y hy => ?_⟩⟩
  · have := h3 y hy
    rw [hb] at this
    simpa using this
  · cases e : bar y x with
    | true => rw [h3 y hy e]; rfl
    | false => rfl
end Lk
set_option maxRecDepth 100000
set_option maxHeartbeats 4000000
namespace Lk
open PySem PySem.Spec PyProof.Rows L2
/-! ### sorted(row) -/
section
variable {X : Cx}
theorem cr_sortedR : CallR X (.builtin "sorted") (fun xs H Q => ∃ a row, xs = [.ref a] ∧ RowAt H a row ∧ row.length < 64 ∧ ∀ (ys : List Str) p H', Same H H' → H p = none → ys.Perm row → sortedS ys = true → H' p = some (.lst (ys.map V.str)) → Q (.ref p) H') := by
  intro pins s σ H xs us Q I r h
  obtain ⟨a, row, rfl, hrow, h64, q⟩ := h
  rcases hrow with e | e
  rotate_left
  · exact cr_sortedS pins s σ H _ us Q I r ⟨a, row, rfl, .inl (.inl e), h64, fun ys p pm so hp => q ys p _ (same_upd hp) hp pm so upd_same⟩
  obtain ⟨its, rv, ht, _⟩ := I.tuple (e.sq (K := X.K))
  rw [Vals.ref1 r]
  have len := rv.length
  rw [List.length_map] at len
  have hS := rv.strs
  obtain ⟨o, ho, hcl, n, hd⟩ := ht
  refine Calls.call_function_entry PyProof.Rows.kind_sorted PyProof.Rows.plain_sorted PyProof.Rows.entry_sorted (PyProof.Rows.args_sorted1 _) ?_
  unfold Builtin.«sorted»
  refine wpAny_bind (m := checkCount "sorted" 1 1 _) (wpAny_pure ?_)
  refine wpAny_bind (wpAny_collect_seq a (.inr rfl) ho hcl hd (fun h' keep => ?_) (by rw [List.size_toArray, ← len, sizeLine_eq]; omega))
  have I1 : Inv X pins σ H { s with heap := h' } := I.kept (t' := s.toks) keep
  refine wpAny_bind (wpAny_newList ?_ (by rw [← len, sizeLine_eq]; omega))
  have top : (h'.push (seqObj "list" its.toArray 0)).get? h'.objs.size = some (seqObj "list" its.toArray 0) := Heap.get?_push_size _ rfl
  show wpAny _ _ _ _ _ { s with heap := h'.push (seqObj "list" its.toArray 0) }
  refine wpAny_bind (wpAny_holding (wpAny_call_entry PyProof.Rows.slot_list_sort ⟨_, top, rfl⟩ PyProof.Rows.entry_list_sort (list_sort_treeK strKind_oneLt (s := { s with heap := h'.push (seqObj "list" its.toArray 0) }) top hS.keysOf (fun v1 v2 rest e => keyKind_strs (by rw [← e]; exact hS)) (by rw [← len]; exact h64) fun st hp hs => ⟨_, rfl, ?_⟩) (PyProof.Rows.args_list_sort _)))
  obtain ⟨ys, g1, g2, g3⟩ := sorted_out_str hS hp hs
  obtain ⟨ep, at_⟩ := PyProof.Rows.sortedHeap_at (vs := its) (out := (arrOf st).map (·.2)) top
  have few : (ys.map V.str).length ≤ sizeLine := by
    rw [List.length_map, g2.length_eq, sizeLine_eq]
    omega
  have fresh := I1.hok.fresh (Nat.le_refl h'.objs.size)
  refine wpAny_pure ⟨_, rfl, .ref h'.objs.size, upd H h'.objs.size (.lst (ys.map V.str)), I1.laid (t' := s.toks) (fun b u e => ?_) (Nat.le_refl _)
    (show ObjOk X.prog X.w _ _ _ (.lst (ys.map V.str)) from ⟨few, ((arrOf st).map (·.2)).toList, ep, vals_of_strs g1, by rw [Array.toArray_toList]; exact at_⟩), rfl, q ys _ _ (same_upd fresh) fresh g2 g3 upd_same⟩
  have lt : b < h'.objs.size := Heap.lt_size e
  rw [PyProof.Rows.sortedHeap_old (Nat.ne_of_lt lt) (by rw [size_push']; exact Nat.lt_succ_of_lt lt)]
  exact Heap.get?_push_of_some _ e
end
end Lk
set_option maxRecDepth 100000
set_option maxHeartbeats 4000000
namespace Lk
open PySem PySem.Spec PyProof.Rows L2
def bitsK (ks : List Str) : List (Key × V) := ks.map fun x => (Sum.inr x, V.int (bitN ks x : Nat))
def BarrAt (H : Hp) (E : Addr) (ks : List Str) (bar : Str → Str → Bool) : Prop := ∃ kvs, H E = some (.dK kvs) ∧ kvs.length ≤ 100 ∧ ∀ x ∈ ks, valV kvs (.inr x) = some (.int (mkN ks (fun y => bar y x) : Nat))
theorem BarrAt.same {H H' : Hp} {E : Addr} {ks : List Str} {bar : Str → Str → Bool} (s : Same H H') (h : BarrAt H E ks bar) : BarrAt H' E ks bar := by
  obtain ⟨kvs, h1, h2, h3⟩ := h
  exact ⟨kvs, s _ _ h1, h2, h3⟩
/-- bunches that can have come, by how many are in them -/
inductive Rch (ks : List Str) (bar : Str → Str → Bool) : Nat → Nat → Prop
  | zero : Rch ks bar 0 0
  | step {k n : Nat} {x : Str} : Rch ks bar k n → x ∈ nxtL ks bar (prN ks n) → Rch ks bar (k + 1) (n + bitN ks x)
def LevIs (ks : List Str) (bar : Str → Str → Bool) (k : Nat) (l : List Nat) : Prop := l.Nodup ∧ ∀ n, n ∈ l ↔ Rch ks bar k n
end Lk
set_option maxRecDepth 100000
set_option maxHeartbeats 4000000
namespace Lk
open PySem PySem.Spec PyProof.Rows L2
section
variable {ks : List Str} {bar : Str → Str → Bool} {k j n m : Nat} {x : Str}
theorem mk_add (nd : ks.Nodup) (hn : n < 2 ^ ks.length) (hx : x ∈ ks) (hp : prN ks n x = false) : n + bitN ks x = mkN ks fun z => prN ks n z || z == x := by
  rw [mkN_add nd hx hp, mkN_pr nd hn]
theorem pr_add (nd : ks.Nodup) (hn : n < 2 ^ ks.length) (hx : x ∈ ks) (hp : prN ks n x = false) : ∀ z ∈ ks, prN ks (n + bitN ks x) z = (prN ks n z || z == x) := fun z hz => by
  rw [mk_add nd hn hx hp, pr_mkN hz]
theorem Rch.lt (nd : ks.Nodup) (h : Rch ks bar k n) : n < 2 ^ ks.length := by
  induction h with
  | zero => exact Nat.two_pow_pos _
  | step h hx ih =>
    obtain ⟨h1, h2, _⟩ := nxtL_mem.mp hx
    rw [mk_add nd ih h1 h2]
    exact mkN_lt _ _
theorem filter_or {p : Str → Bool} : ∀ {l : List Str}, l.Nodup → x ∈ l → p x = false → (l.filter fun z => p z || z == x).length = (l.filter p).length + 1
  | [], _, h, _ => nomatch h
  | y :: l, nd, h, hp => by
    obtain ⟨ny, nd'⟩ := List.nodup_cons.mp nd
    by_cases c : y = x
    · subst c
      rw [List.filter_cons_of_pos (by simp), List.filter_cons_of_neg (by simp [hp]), List.length_cons]
      congr 2
      refine List.filter_congr fun z hz => ?_
      have : ¬ z = y := fun e => ny (e ▸ hz)
      simp [this]
    · have ih := filter_or nd' ((List.mem_cons.mp h).resolve_left fun e => c e.symm) hp
      by_cases q : p y = true
      · rw [List.filter_cons_of_pos (by simp [q]), List.filter_cons_of_pos q, List.length_cons, List.length_cons, ih]
      · rw [List.filter_cons_of_neg (by simp [q, c]), List.filter_cons_of_neg q, ih]
theorem Rch.pop (nd : ks.Nodup) (h : Rch ks bar k n) : (ks.filter (prN ks n)).length = k := by
  induction h with
  | zero =>
    rw [List.filter_eq_nil_iff.mpr fun x _ => ?_]
    · rfl
    · unfold prN
      simp
  | step h hx ih =>
    obtain ⟨h1, h2, _⟩ := nxtL_mem.mp hx
    rw [List.filter_congr (pr_add nd (h.lt nd) h1 h2), filter_or nd h1 h2, ih]
theorem Rch.uniq (nd : ks.Nodup) (h : Rch ks bar k n) (h' : Rch ks bar j n) : k = j := by rw [← h.pop nd, ← h'.pop nd]
theorem Rch.le (nd : ks.Nodup) (h : Rch ks bar k n) : k ≤ ks.length := by
  rw [← h.pop nd]
  exact List.length_filter_le _ _
theorem nat_bound : ∀ (m : Nat) {l : List Nat}, l.Nodup → (∀ n ∈ l, n < m) → l.length ≤ m
  | 0, l, _, h => by
    cases l with
    | nil => exact Nat.le_refl _
    | cons a l => exact absurd (h a (List.mem_cons_self ..)) (by omega)
  | m + 1, l, nd, h => by
    have z := nat_bound m (l := l.erase m) (nd.erase m) fun n hn => by
      have := (nd.mem_erase_iff).mp hn
      have := h n this.2
      omega
    have := List.length_erase (l := l) (a := m)
    split at this <;> omega
theorem LevIs.size (nd : ks.Nodup) (h : LevIs ks bar k l) : l.length ≤ 2 ^ ks.length := nat_bound _ h.1 fun n hn => ((h.2 n).mp hn).lt nd
/-! ### the keys that grow -/
def addU (gs : List Nat) (n : Nat) : List Nat := if n ∈ gs then gs else gs ++ [n]
theorem addU_nodup {gs : List Nat} (h : gs.Nodup) : (addU gs n).Nodup := by
  unfold addU
  split
  · exact h
  · rename_i c
    rw [List.nodup_append]
    refine ⟨h, by simp, fun a ha b hb e => ?_⟩
    rw [List.mem_singleton.mp hb] at e
    exact c (e ▸ ha)
theorem addU_mem {gs : List Nat} : m ∈ addU gs n ↔ m ∈ gs ∨ m = n := by
  unfold addU
  split
  · rename_i c
    exact ⟨.inl, fun h => h.elim id fun e => e ▸ c⟩
  · simp
theorem addU_length {gs : List Nat} : (addU gs n).length ≤ gs.length + 1 := by
  unfold addU
  split
  · omega
  · simp
/-- what has grown when i bunches are through, and of the next one j who can come -/
structure Grown (ks : List Str) (bar : Str → Str → Bool) (l : List Nat) (i j : Nat) (gs : List Nat) : Prop where
  nd : gs.Nodup
  mem : ∀ m, m ∈ gs ↔ (∃ n ∈ l.take i, ∃ x ∈ nxtL ks bar (prN ks n), m = n + bitN ks x) ∨ ∃ n, l[i]? = some n ∧ ∃ x ∈ (nxtL ks bar (prN ks n)).take j, m = n + bitN ks x
  len : gs.length ≤ i * ks.length + j
theorem Grown.zero {l : List Nat} : Grown ks bar l 0 0 [] := ⟨List.nodup_nil, fun m => by simp, Nat.zero_le _⟩
theorem Grown.step {l gs : List Nat} {i : Nat} (h : Grown ks bar l i j gs) (hn : l[i]? = some n) (hx : (nxtL ks bar (prN ks n))[j]? = some x) : Grown ks bar l i (j + 1) (addU gs (n + bitN ks x)) := by
  refine ⟨addU_nodup h.nd, fun m => ?_, ?_⟩
  · rw [addU_mem, h.mem m]
    constructor
    · rintro ((a | ⟨n', e, y, hy, em⟩) | e)
      · exact .inl a
      · exact .inr ⟨n', e, y, by rw [List.take_add_one]; exact List.mem_append_left _ hy, em⟩
      · exact .inr ⟨n, hn, x, by rw [List.take_add_one, hx]; simp, e⟩
    · rintro (a | ⟨n', e, y, hy, em⟩)
      · exact .inl (.inl a)
      · rw [hn] at e
        cases e
        rw [List.take_add_one, hx] at hy
        rcases List.mem_append.mp hy with u | u
        · exact .inl (.inr ⟨n, hn, y, u, em⟩)
        · have : y = x := by simpa using u
          subst this
          exact .inr em
  · have := addU_length (gs := gs) (n := n + bitN ks x)
    have := h.len
    omega
theorem nxtL_len : (nxtL ks bar p).length ≤ ks.length := List.length_filter_le _ _
theorem Grown.next {l gs : List Nat} {i : Nat} (h : Grown ks bar l i (nxtL ks bar (prN ks n)).length gs) (hn : l[i]? = some n) : Grown ks bar l (i + 1) 0 gs := by
  refine ⟨h.nd, fun m => ?_, ?_⟩
  · rw [h.mem m]
    constructor
    · rintro (⟨n', hn', e⟩ | ⟨n', e, y, hy, em⟩)
      · exact .inl ⟨n', by rw [List.take_add_one]; exact List.mem_append_left _ hn', e⟩
      · refine .inl ⟨n', by rw [List.take_add_one, e]; simp, y, ?_, em⟩
        exact List.mem_of_mem_take hy
    · rintro (⟨n', hn', e⟩ | ⟨n', e, y, hy, em⟩)
      · rw [List.take_add_one, hn] at hn'
        rcases List.mem_append.mp hn' with u | u
        · exact .inl ⟨n', u, e⟩
        · have e1 : n' = n := by simpa using u
          subst e1
          obtain ⟨y, hy, em⟩ := e
          exact .inr ⟨n', hn, y, by rw [List.take_of_length_le (Nat.le_refl _)]; exact hy, em⟩
      · simp at hy
  · have := h.len
    have := nxtL_len (ks := ks) (bar := bar) (p := prN ks n)
    rw [Nat.succ_mul]
    omega
theorem Grown.done {l gs : List Nat} (h : Grown ks bar l l.length 0 gs) (hl : LevIs ks bar k l) : LevIs ks bar (k + 1) gs := by
  refine ⟨h.nd, fun m => ?_⟩
  rw [h.mem m, List.take_of_length_le (Nat.le_refl _)]
  constructor
  · rintro (⟨n, hn, x, hx, rfl⟩ | ⟨n, e, y, hy, em⟩)
    · exact .step ((hl.2 n).mp hn) hx
    · simp at hy
  · intro r
    cases r with
    | step r hx => exact .inl ⟨_, (hl.2 _).mpr r, _, hx, rfl⟩
end
end Lk
set_option maxRecDepth 100000
set_option maxHeartbeats 4000000
namespace Lk
open PySem PySem.Spec PyProof.Rows L2
/-! ### a heap without one of its objects -/
section
variable {H : Hp} {p C dx : Addr} {fs : List (Str × V)}
end
/-! ### a Count -/
def fldsC (D E W : Addr) : List (Str × V) := putF "ways" (.ref W) (putF "barrers" (.ref E) (putF "bits" (.ref D) []))
/-- the bunches from size k on have their ways, of size k the first i -/
def WaysUp (ks : List Str) (bar : Str → Str → Bool) (kvs : List (Key × V)) (P : Nat → Nat → Prop) : Prop := ∀ j n, Rch ks bar j n → P j n → valV kvs (.inl (n : Int)) = some (.int (waysN ks bar (ks.length - j) (prN ks n) : Nat))
structure CountIs (C : Addr) (H : Hp) (p D E W : Addr) (ks : List Str) (bar : Str → Str → Bool) (kvs : List (Key × V)) : Prop where
  ob : ∃ dx, H p = some (.ins C dx (fldsC D E W))
  bi : H D = some (.dK (bitsK ks))
  br : BarrAt H E ks bar
  wa : H W = some (.dK kvs)
theorem CountIs.same {C : Addr} {H H' : Hp} {p D E W : Addr} {ks : List Str} {bar : Str → Str → Bool} {kvs : List (Key × V)} (h : CountIs C H p D E W ks bar kvs) (s : Same H H') : CountIs C H' p D E W ks bar kvs := by
  obtain ⟨⟨dx, h1⟩, h2, h3, h4⟩ := h
  exact ⟨⟨dx, s _ _ h1⟩, s _ _ h2, h3.same s, s _ _ h4⟩
def CountAt (C : Addr) (H : Hp) (p : Addr) (ks : List Str) (bar : Str → Str → Bool) : Prop := ∃ D E W kvs, CountIs C H p D E W ks bar kvs ∧ WaysUp ks bar kvs fun _ _ => True
theorem CountAt.same {C : Addr} {H H' : Hp} {p : Addr} {ks : List Str} {bar : Str → Str → Bool} (s : Same H H') (h : CountAt C H p ks bar) : CountAt C H' p ks bar := by
  obtain ⟨D, E, W, kvs, h1, h2⟩ := h
  exact ⟨D, E, W, kvs, h1.same s, h2⟩
section
variable {ks : List Str} {bar : Str → Str → Bool} {kvs : List (Key × V)} {k n : Nat}
end
end Lk
set_option maxRecDepth 100000
set_option maxHeartbeats 4000000
namespace Lk
open PySem PySem.Spec PyProof.Rows L2
section
variable {C : Addr} {H : Hp} {p D E W : Addr} {ks : List Str} {bar : Str → Str → Bool} {kvs : List (Key × V)}
theorem CountIs.put (h : CountIs C H p D E W ks bar kvs) (nD : D ≠ W) (nE : E ≠ W) (kvs' : List (Key × V)) : CountIs C (upd H W (.dK kvs')) p D E W ks bar kvs' := by
  obtain ⟨⟨dx, h1⟩, h2, ⟨kE, e1, e2, e3⟩, h4⟩ := h
  exact ⟨⟨dx, (upd_ne (ne_of h1 h4 (fun z => nomatch z))).trans h1⟩, (upd_ne nD).trans h2, ⟨kE, (upd_ne nE).trans e1, e2, e3⟩, upd_same⟩
theorem WaysUp.put {P P' : Nat → Nat → Prop} {k n : Nat} (h : WaysUp ks bar kvs P) (nd : ks.Nodup) (r : Rch ks bar k n) (hP : ∀ j m, Rch ks bar j m → P' j m → P j m ∨ m = n) : WaysUp ks bar (putK kvs (.inl (n : Int)) (.int (waysN ks bar (ks.length - k) (prN ks n) : Nat))) P' := fun j m hr hp => by
  rw [valV_put]
  by_cases c : m = n
  · subst c
    rw [if_pos rfl, hr.uniq nd r]
  · rw [if_neg (fun e => c (by have : (m : Int) = n := Sum.inl.inj e; omega))]
    exact h j m hr ((hP j m hr hp).resolve_right c)
end
end Lk
set_option maxRecDepth 100000
set_option maxHeartbeats 4000000
namespace Lk
open PySem PySem.Spec PyProof.Rows L2
/-! ### counted by sets of who has come, by the law -/
section
variable {row : List Str} {bar : Str → Str → Bool} {c k : Nat}
end
/-- who comes after whom, each one's list -/
def AfterB (H : Hp) (D : Addr) (row : List Str) (bar : Str → Str → Bool) : Prop := ∃ kvs, H D = some (.dK kvs) ∧ ∀ x ∈ row, ∃ (la : Addr) (ys : List Str), valV kvs (.inr x) = some (.ref la) ∧ H la = some (.lst (ys.map V.str)) ∧ ys.Nodup ∧ (∀ y ∈ ys, y ∈ row) ∧ ∀ y ∈ row, bar x y = decide (y ∈ ys)
theorem AfterB.same {H H' : Hp} {D : Addr} {row : List Str} {bar : Str → Str → Bool} (s : Same H H') (h : AfterB H D row bar) : AfterB H' D row bar := by
  obtain ⟨kvs, h1, h3⟩ := h
  refine ⟨kvs, s _ _ h1, fun x hx => ?_⟩
  obtain ⟨la, ys, a, b, c⟩ := h3 x hx
  exact ⟨la, ys, a, s _ _ b, c⟩
end Lk
set_option maxRecDepth 100000
set_option maxHeartbeats 4000000
namespace Lk
open PySem PySem.Spec PyProof.Rows L2
/-! ### all orders, one behind the other -/
section
variable {ks : List Str} {bar : Str → Str → Bool} {k i r : Nat} {p q : Str → Bool} {x : Str}
/-! ### the number of each -/
end
/-! ### lists of texts, one below the other -/
section
variable {X : Cx}
end
section
variable {ks : List Str} {bar : Str → Str → Bool}
end
end Lk
set_option maxRecDepth 100000
set_option maxHeartbeats 4000000
namespace Lk
open PySem PySem.Spec PyProof.Rows L2
/-- people in order, the row's own -/
def SortOf (row ks : List Str) : Prop := ks.Perm row ∧ sortedS ks = true
theorem SortOf.uniq {row ks js : List Str} (h : SortOf row ks) (g : SortOf row js) : ks = js := sortedS_uniq (h.1.trans g.1.symm) h.2 g.2
section
variable {ks : List Str} {bar : Str → Str → Bool} {k n i r : Nat} {x : Str} {s : List Str}
end
/-! ### all orders, by the law, in their order -/
section
variable {ps : List (Str × Str)} {row ks : List Str}
end
end Lk
set_option maxRecDepth 100000
set_option maxHeartbeats 4000000
namespace Lk
open PySem PySem.Spec PyProof.Rows L2
/-! ### range(n) as a thing, list(range(n)) -/
section
variable {X : Cx}
end
/-! ### whole numbers written -/
section
variable {ks : List Str} {bar : Str → Str → Bool}
end
section
variable {ps : List (Str × Str)} {row ks o : List Str}
end
end Lk
set_option maxRecDepth 100000
set_option maxHeartbeats 4000000
namespace Lk
open PySem PySem.Spec PyProof.Rows L2
section
variable {X : Cx}
/-! ### a tuple that was just made, as a key of a dict -/
/-! ### tuples put together: which one it is -/
end
/-! ### what shows nothing -/
/-! ### rows as keys -/
def kS (xs : List Str) : List Key := xs.map Sum.inr
end Lk
set_option maxRecDepth 100000
set_option maxHeartbeats 4000000
namespace Lk
open PySem PySem.Spec PyProof.Rows L2
/-! ### {x} in an f-string: any data, as a text -/
section
variable {X : Cx}
end
/-! ### an own exception, its __init__ under my Room -/
section
variable {X : Cx} {o e : Expr} {es : List Expr} {to te : TE} {ta : TA} {f : Str} {p p' p1 p2 pos : Pos} {T newId initId : String} {tn : Str}
variable {CX : CXT} {x : Str} {C fI : Addr} {k : Nat} {fd : FuncData} {ps : List Str} {sp : Sp}
end
/-! ### a class of one's own whose __init__ may raise -/
section
variable {X : Cx} {k n : Nat} {C : Addr} {ps : List Str} {sp : Sp} {x : Str} {p pos : Pos} {e : Expr} {es : List Expr} {t : TA} {W : WX}
end
/-! ### promises: kept, Stuck(left), who is refused -/
end Lk
namespace Lk
open PySem PySem.Spec PyProof.Rows L2
end Lk
namespace Lk
open PySem PySem.Spec PyProof.Rows L2
end Lk
namespace Lk
open PySem PySem.Spec PyProof.Rows L2
/-! ### k77: all lists of some names, rising -/
end Lk
namespace Lk
open PySem PySem.Spec PyProof.Rows L2
/-! ### k17: asked of a row without an order -/
end Lk
namespace Lk
open PySem PySem.Spec PyProof.Rows L2
section
variable {ps : List (Str × Str)} {row : List Str} {k : Nat}
end
end Lk
namespace Lk
open PySem PySem.Spec PyProof.Rows L2
section
variable {X : Cx}
theorem call_repr_bl : CallR X (.builtin "repr") (fun xs H Q => ∃ b, xs = [.bl b] ∧ Q (.str (if b then "True" else "False")) H) := by
  intro pins s σ H xs us Q I r h
  obtain ⟨b, rfl, q⟩ := h
  obtain ⟨u, rfl, rx⟩ := vals1 r
  cases rx
  exact PySem.P.repr_of_bool ⟨.str _, H, I.tok _, ⟨_, rfl⟩, q⟩
end
end Lk
set_option maxRecDepth 100000
set_option maxHeartbeats 4000000
namespace Lk
open PySem PySem.Spec PyProof.Rows L2
/-! ### what repr writes of a thing -/
def repD : PyData → Str
  | .none => "None"
  | .bool b => if b then "True" else "False"
  | .int i => toString i
  | .str z => reprText z
  | d => d.shown
def rReprD (K : PySem.W.Frag) : List V → Hp → VK → Prop := fun xs H Q => ∃ (x : V) (bad : Addr → Prop) (d : PyData) (n w : Nat), xs = [x] ∧ Tr bad H d x ∧ Okd n w d ∧ n ≤ 60 ∧ w ≤ 100000 ∧ Q (.str (repD d)) H
section
variable {X : Cx}
theorem call_reprD {k : Nat} (z : Room k X.A) : CallR X (.builtin "repr") (rReprD X.K) := by
  intro pins s σ H xs us Q I r h
  obtain ⟨x, bad, d, n, w, rfl, tr, ok, hn, hw, q⟩ := h
  cases d with
  | none =>
    simp only [Tr] at tr
    subst tr
    obtain ⟨u, rfl, rx⟩ := vals1 r
    cases rx
    exact PySem.P.repr_of_none ⟨.str _, H, I.tok _, ⟨_, rfl⟩, q⟩
  | bool b =>
    simp only [Tr] at tr
    subst tr
    exact call_repr_bl pins s σ H _ us Q I r ⟨b, rfl, q⟩
  | int i =>
    simp only [Tr] at tr
    subst tr
    refine SkE.call_repr_int pins s σ H _ us Q I r ⟨i, rfl, ?_, q⟩
    have h := ok.fit.sh
    simp only [PyData.showable, decide_eq_true_eq] at h
    exact h
  | str z =>
    simp only [Tr] at tr
    subst tr
    obtain ⟨u, rfl, t, rfl⟩ := vals1 r
    refine PySem.P.repr_of_str ⟨.str _, H, I.tok _, ⟨_, rfl⟩, q⟩ ?_
    have h := ok.fit.fits (Nat.le_trans hw (by decide))
    simpa [PyData.shown] using h
  | list ds =>
    have dp := tr.dp (K := X.K)
    simp only [Tr] at tr
    obtain ⟨a, xs, rfl, _⟩ := tr
    exact call_reprS z pins s σ H _ us Q I r ⟨_, _, rfl, ⟨⟨a, rfl⟩, dp, n, w, ok.fit, hn, Nat.le_trans hw (by decide)⟩, q⟩
  | tuple ds =>
    have dp := tr.dp (K := X.K)
    simp only [Tr] at tr
    obtain ⟨a, xs, rfl, _⟩ := tr
    exact call_reprS z pins s σ H _ us Q I r ⟨_, _, rfl, ⟨⟨a, rfl⟩, dp, n, w, ok.fit, hn, Nat.le_trans hw (by decide)⟩, q⟩
  | dict _ => simp only [Tr] at tr
end
/-! ### the law's own reading of deeds -/
theorem names_weight : ∀ {xs : List Str}, (∀ x ∈ xs, NameOk x) → PyData.weightAll (xs.map .str) ≤ 9 * xs.length
  | [], _ => by simp only [List.map_nil, PyData.weightAll, List.length_nil]; exact Nat.le_refl _
  | x :: xs, h => by
    have ih := names_weight fun y hy => h y (List.mem_cons_of_mem _ hy)
    have l := (h x List.mem_cons_self).len
    have e : (PyData.str x).weight = x.length := by simp only [PyData.weight]; rfl
    simp only [List.map_cons, PyData.weightAll, List.length_cons, e]
    omega
theorem names_okl {xs : List Str} (h : ∀ x ∈ xs, NameOk x) : OkL 0 (9 * xs.length) (xs.map .str) :=
  OkL.of (w := 8) (fun d hd => by
    obtain ⟨x, hx, rfl⟩ := List.mem_map.mp hd
    exact okd_str (h x hx).good (h x hx).len) (names_weight h)
/-! ### the deeds of a story as things -/
/-- a thing that the law asks about -/
def ThOk (d : PyData) : Prop := Okd 10 4000 d ∧ lenD d ≤ 18
theorem ThOk.of {n w : Nat} {d : PyData} (h : Okd n w d) (hn : n ≤ 10 := by omega) (hw : w ≤ 4000 := by omega) (hl : lenD d ≤ 18 := by omega) : ThOk d := ⟨h.mono hn hw, hl⟩
theorem cutL_butX {α : Type} (xs : List α) : cutL xs none (some (-1)) = xs.dropLast := by
  unfold cutL
  rw [HT.sIx_none, List.drop_zero, Nat.sub_zero, List.dropLast_eq_take]
  show xs.take (if (-1 : Int) < 0 then ((-1 : Int) + (xs.length : Int)).toNat else min (-1 : Int).toNat xs.length) = _
  rw [if_pos (by decide), show ((-1 : Int) + (xs.length : Int)).toNat = xs.length - 1 by omega]
end Lk
set_option maxRecDepth 100000
set_option maxHeartbeats 4000000
namespace Lk
open PySem PySem.Spec PyProof.Rows L2
/-! ### rows and clauses of any shape -/
section
variable {X : Cx}
def tLenStrsTQ (K : PySem.W.Frag) (ta : TE) : TE := fun σ H Q => ta σ H fun x H1 => ∃ (l : Addr) (xs : List Str), x = .ref l ∧ SqT K H1 l (xs.map V.str) ∧ xs.length ≤ 100 ∧ ∀ us : List Str, us.Nodup → (∀ y, y ∈ us ↔ y ∈ xs) → Q (.int us.length) H1
theorem pe_lenStrsTQ {a : Expr} {ta : TE} {p p2 q pos : Pos} (hc : X.calm = true) (hg : Gl X "len") (hm : X.mg "len" = none) (hg2 : Gl X "set") (hm2 : X.mg "set" = none) (ha : PE X a ta)
    (na : starEach [a] X.env = (false, eval a X.env) :: starEach [] X.env := by rfl) : PE X (.Call (.Name "len" p) [.Call (.Name "set" p2) [a] [] q] [] pos) (tLenStrsTQ X.K ta) := by
  refine ⟨fun pins s σ H Q I h => Call_ (ld_blt I hg hm PySem.boot_len (PyProof.Rows.callWith_builtin1 (PyProof.Rows.args_cons (Call_ (ld_blt I hg2 hm2 PyProof.Rows.boot_set ?_)) rfl) rfl rfl))⟩
  refine PyProof.Rows.callWith_type1 (PyProof.Rows.args_cons (thn (ha.run pins s σ H _ I h) fun v s1 ⟨x, H1, I1, r1, q1⟩ => PyProof.Rows.args_nil ?_) na) na rfl
  obtain ⟨l, xs, rfl, e, few, q1⟩ := q1
  cases r1
  obtain ⟨its, r, pl, _⟩ := I1.tuple e
  refine set_strsTD (xs := xs) (I1.ok.hd hc) pl (by simpa using strsAre_of r) (fun us nu su => by
    have := nd_lenS us xs nu su
    unfold scanBound
    omega) fun h' tk us nu mu so kp => PyProof.Rows.args_nil ?_
  have lu : us.length ≤ 100 := Nat.le_trans (nd_lenS us xs nu fun y hy => (mu y).mp hy) few
  obtain ⟨o, es, ep, t, ho, ex, hd, _, _, _, hf, hn⟩ := so
  exact call_len_set ho ex hd hf (by rw [hn] <;> omega) ⟨.int us.length, H1, (I1.kept fun b o z => kp b o z).tok _, ⟨_, by rw [hn]⟩, q1 us nu mu⟩
end
def strPD : PyData → Str
  | .str x => x
  | _ => ""
theorem nm_str {d : PyData} (h : nmB d = true) : d = .str (strPD d) ∧ NameOk (strPD d) := by
  cases d with
  | str x => exact ⟨rfl, nb_iff.mp h⟩
  | _ => cases h
theorem nms_str : ∀ {ds : List PyData}, ds.all nmB = true → ds = (ds.map strPD).map .str ∧ ∀ x ∈ ds.map strPD, NameOk x
  | [], _ => ⟨rfl, (fun _ h => nomatch h)⟩
  | d :: ds, h => by
    rw [List.all_cons, Bool.and_eq_true] at h
    have ih := nms_str h.2
    have h1 := nm_str h.1
    constructor
    · rw [List.map_cons, List.map_cons, ← h1.1, ← ih.1]
    · intro x hx
      rcases List.mem_cons.mp hx with z | z
      · rw [z]
        exact h1.2
      · exact ih.2 x z
def rowDB : PyData → Bool
  | .tuple ds => ds.all nmB && decide (ds.map strPD).Nodup
  | _ => false
def itemsD : PyData → List PyData
  | .list ds => ds
  | .tuple ds => ds
  | _ => []
def spRowD : Sp := fun vs H Q _ => ∃ (v : V) (bad : Addr → Prop) (d : PyData), vs = [v] ∧ Tr bad H d v ∧ d.weight ≤ 10000 ∧ (itemsD d).length ≤ 90 ∧ ∀ H', Same H H' → Q (.bl (rowDB d)) H'
/-! ### whether one bars, of any word -/
/-! ### papers of any shape -/
/-! ### the law's own look at a reason -/
section
variable {ps : List (Str × Str)} {line : List Str} {many : Nat} {x : Str} {pl : List Nat}
end
/-! ### a paper by the law's look is one by the program's -/
theorem all_congr_mem {α : Type} {f g : α → Bool} : ∀ {xs : List α}, (∀ x ∈ xs, f x = g x) → xs.all f = xs.all g
  | [], _ => rfl
  | x :: xs, h => by
    rw [List.all_cons, List.all_cons, h x List.mem_cons_self, all_congr_mem fun y hy => h y (List.mem_cons_of_mem _ hy)]
end Lk
set_option maxRecDepth 100000
set_option maxHeartbeats 4000000
namespace HT
open PySem PyProof.Rows
section
variable {prog : Program} {w : World} {A : Around} {E : Value → Shared → Prop} {s : Shared}
theorem places_rev (n : Nat) : Builtin.Slice.slicePlaces ((n : Int) - 1) (-1) (-1) = n := by
  unfold Builtin.Slice.slicePlaces
  have h1 : ¬ ((-1 : Int) > 0) := by decide
  simp only [h1, if_false]
  by_cases h : (n : Int) - 1 > -1
  · rw [if_pos h, show (- -1 : Int) = 1 by decide, Int.ediv_one]
    omega
  · rw [if_neg h]
    omega
theorem sliceApplied_rev {sl : Addr} {vl vu vs : Value} {n : Nat} {Q : Int × Int × Nat → Shared → Prop} (hs : s.heap.IsSliceOf sl vl vu vs) (pl : IsPart vl none) (pu : IsPart vu none) (ps : IsPart vs (some (-1)))
    (h : Q ((n : Int) - 1, -1, n) s) : wpAny (model prog w) A (Builtin.Slice.sliceApplied (.ref sl) (pure (n : Int))) Q E s := by
  obtain ⟨os, hos, hcs, hds⟩ := id hs
  unfold Builtin.Slice.sliceApplied Builtin.Slice.sliceFields
  refine wpAny_bind (wpAny_bind (wpAny_field hos hds (x := vl) rfl (wpAny_bind (wpAny_field hos hds (x := vu) rfl (wpAny_bind (wpAny_field hos hds (x := vs) rfl (wpAny_pure ?_)))))))
  refine wpAny_bind (slicePart_ ps ?_)
  show wpAny _ _ (if ((-1 : Int) == 0) = true then _ else _) _ _ s
  rw [if_neg (by decide)]
  refine wpAny_bind (slicePart_ pl (wpAny_bind (slicePart_ pu (wpAny_bind (wpAny_pure ?_)))))
  show wpAny _ _ (pure ((n : Int) - 1, (-1 : Int), Builtin.Slice.slicePlaces ((n : Int) - 1) (-1) (-1))) _ _ s
  rw [places_rev]
  exact wpAny_pure h
theorem fm_congr {α β : Type} {f g : α → Option β} : ∀ {xs : List α}, (∀ x ∈ xs, f x = g x) → xs.filterMap f = xs.filterMap g
  | [], _ => rfl
  | x :: xs, h => by
    rw [List.filterMap_cons, List.filterMap_cons, h x List.mem_cons_self, fm_congr fun y hy => h y (List.mem_cons_of_mem _ hy)]
theorem pick_rev (xs : Array Value) : ((List.range xs.size).filterMap fun (m : Nat) => xs[(((xs.size : Int) - 1) + (m : Int) * (-1)).toNat]?).toArray = xs.toList.reverse.toArray := by
  have e : (List.range xs.size).filterMap (fun (m : Nat) => xs[(((xs.size : Int) - 1) + (m : Int) * (-1)).toNat]?) = ((List.range xs.size).map fun k => xs.size - 1 - k).filterMap (xs[·]?) := by
    rw [List.filterMap_map]
    refine fm_congr fun m hm => ?_
    have := List.mem_range.mp hm
    show xs[(((xs.size : Int) - 1) + (m : Int) * (-1)).toNat]? = xs[xs.size - 1 - m]?
    rw [show (((xs.size : Int) - 1) + (m : Int) * (-1)).toNat = xs.size - 1 - m by omega]
  rw [e, PySem.W.krv_range, List.filterMap_reverse, PySem.W.krv_all]
theorem getItem_tuple_rev {t sl : Addr} {items : Array Value} {vl vu vs : Value} {Q : Value → Shared → Prop} (ht : IsTup s.heap t items) (hs : s.heap.IsSliceOf sl vl vu vs) (pl : IsPart vl none) (pu : IsPart vu none) (ps : IsPart vs (some (-1)))
    (h : Q (.ref s.heap.objs.size) { s with heap := s.heap.push { cls := .type "tuple", data := .seq items.toList.reverse.toArray } })
    (hsz : items.size ≤ sizeLine) : wpAny (model prog w) A (getItem (.ref t) (.ref sl)) Q E s := by
  have htake : sizeOk (.seq items.toList.reverse.toArray) := by
    show items.toList.reverse.toArray.size ≤ sizeLine
    rw [List.size_toArray, List.length_reverse, Array.length_toList]
    exact hsz
  obtain ⟨os, hos, hcs, hds⟩ := id hs
  have hTs : s.TypeIs (.ref sl) "slice" := ⟨os, hos, hcs⟩
  unfold getItem
  try with_reducible refine wpAny_holding ?_
  first | refine wpAny_bind (wpAny_pure ?_) | skip
  refine wpAny_bind (wpAny_sequenceKey ht.typeIs (by decide) ?_)
  refine wpAny_bind (wpAny_callSpecial?_slot (name := Str.ofString "__getitem__") ht.typeIs PyProof.Rows.slot_tuple_getitem
    (wpAny_call_entry PyProof.Rows.slot_tuple_getitem ht.typeIs entry_tuple_getitem ?_ (args_tuple_getitem _ _)))
  show wpAny _ _ (Builtin.Tuple.tupleItemsOf (.ref t) >>= _) _ _ s
  refine wpAny_bind (tupleItemsOf_ ht ?_)
  refine wpAny_bind (wpAny_typeOf hTs ?_)
  rw [if_pos (by decide)]
  refine wpAny_bind (sliceApplied_rev hs pl pu ps ?_)
  have hno : ¬ ((((items.size : Int) - 1) == 0 && (-1 : Int) == 1 && items.size == items.size) = true) := by
    simp
  show wpAny _ _ (if (((items.size : Int) - 1) == 0 && (-1 : Int) == 1 && items.size == items.size) = true then _ else _) _ _ s
  rw [if_neg hno, pick_rev]
  first
    | exact wpAny_bind (m := Builtin.Tuple.tupleExact _) (wpAny_newObj_type (wpAny_pure ⟨_, rfl, wpAny_pure h⟩) htake)
    | exact wpAny_bind (m := Builtin.Tuple.tupleExact _) (wpAny_newObj_type (wpAny_bind (wpAny_pure (wpAny_pure ⟨_, rfl, wpAny_pure h⟩))) htake)
    | exact wpAny_bind (wpAny_bind (m := Builtin.Tuple.tupleExact _) (wpAny_newObj_type (wpAny_pure (wpAny_pure ⟨_, rfl, wpAny_pure h⟩)) htake))
    | exact wpAny_bind (wpAny_bind (m := Builtin.Tuple.tupleExact _) (wpAny_newObj_type (wpAny_pure ⟨_, rfl, wpAny_pure h⟩) htake))
end
end HT
namespace Lk
open PySem PySem.Spec PyProof.Rows L2
section
variable {X : Cx}
/-- xs[::-1] of a list or a tuple -/
def tRevX (K : PySem.W.Frag) (te : TE) : TE := fun σ H Q => te σ H fun x H1 => ∃ a xs, x = .ref a ∧ ((SqL K H1 a xs ∧ ∀ p, H1 p = none → Q (.ref p) (upd H1 p (.lst xs.reverse))) ∨ (SqT K H1 a xs ∧ ∀ p H', Same H1 H' → H1 p = none → TupAt H' p xs.reverse → Q (.ref p) H'))
theorem pe_revX {e : Expr} {te : TE} {k : Nat} {p1 p2 p3 pos : Pos} (he : PE X e te) : PE X (.Subscript e (.Slice none none (some (.UnaryOp .USub (.Constant (.int 1) k p1) p2)) p3) pos) (tRevX X.K te) := by
  refine ⟨fun pins s σ H Q I h => ?_⟩
  refine Subscript_ (thn (he.run pins s σ H _ I h) fun v s1 ⟨x, H1, I1, r1, q1⟩ => ?_)
  obtain ⟨a, xs, ex, q⟩ := q1
  subst ex
  cases r1
  have hst : PO X (some (.UnaryOp .USub (.Constant (.int 1) k p1) p2)) (tPart (tUn (rU fun i => .int (-i)) (tC (.int 1)))) := po_some (pe_un un_neg pe_int)
  refine wpAny_Slice (thn (po_none.run pins s1 σ H1 (fun o H2 => o = none ∧ H2 = H1) I1 ⟨rfl, rfl⟩) fun vl s2 ⟨l, H2, I2, pl, el, e2⟩ => ?_)
  subst el e2
  refine thn (po_none.run pins s2 σ H2 (fun o H3 => o = none ∧ H3 = H2) I2 ⟨rfl, rfl⟩) fun vu s3 ⟨u, H3, I3, pu, eu, e3⟩ => ?_
  subst eu e3
  refine thn (hst.run pins s3 σ H3 (fun o H4 => o = some (-1) ∧ H4 = H3) I3 ⟨1, rfl, -1, rfl, rfl, rfl⟩) fun vs s4 ⟨o, H4, I4, ps, eo, e4⟩ => ?_
  subst eo e4
  have I5 : Inv X pins σ H4 { s4 with heap := s4.heap.push { cls := .type "slice", data := .fields #[vl, vu, vs] } } := I4.kept (t' := s4.toks) fun b ob q => Heap.get?_push_of_some _ q
  show wpAny (model X.prog X.w) X.A (subscriptTail e (.Slice none none (some (.UnaryOp .USub (.Constant (.int 1) k p1) p2)) p3) (.ref a) (.ref s4.heap.objs.size)) (EP X pins σ Q) X.xe { s4 with heap := s4.heap.push { cls := .type "slice", data := .fields #[vl, vu, vs] } }
  rcases q with ⟨hx, q⟩ | ⟨hx, q⟩
  · obtain ⟨its, r, ht, hz⟩ := I5.list hx
    have hlen := r.length
    refine tail_any (ops := [.ref a, .ref s4.heap.objs.size]) ht.isList.typeIs (PySem.slot_list_getitem.lookup) ?_ (by with_unfolding_all rfl)
    refine wpAny_getItem_list_slice ht.isList (Heap.IsSliceOf.new _ vl vu vs) pl pu ps (by decide) ?_ (by rw [List.size_toArray]; omega)
    rw [PySem.W.krv_pick]
    refine ⟨.ref _, _, I5.laid (t' := s4.toks) (o := .lst xs.reverse) (fun b ob q => Heap.get?_push_of_some _ q) (Nat.le_refl _) ?_, rfl, q _ (I5.hok.fresh (Nat.le_refl _))⟩
    exact ⟨by rw [List.length_reverse]; exact hz, _, 0, r.reverse, Heap.get?_push_size _ rfl⟩
  · obtain ⟨its, r, ht, hz⟩ := I5.tuple hx
    have hlen : its.toArray.size = xs.length := by rw [List.size_toArray]; exact r.length.symm
    refine tail_any (ops := [.ref a, .ref s4.heap.objs.size]) ht.typeIs (PyProof.Rows.slot_tuple_getitem.lookup) ?_ (by with_unfolding_all rfl)
    refine HT.getItem_tuple_rev ht (Heap.IsSliceOf.new _ vl vu vs) pl pu ps ?_ (by rw [hlen]; exact hz)
    have hf : H4 (s4.heap.push { cls := .type "slice", data := .fields #[vl, vu, vs] }).objs.size = none := I5.hok.fresh (Nat.le_refl _)
    exact ⟨.ref _, _, laid_tup (xs := xs.reverse) I5 (by rw [List.length_reverse]; exact hz) r.reverse, rfl, q _ _ (same_upd hf) hf ⟨_, rfl, upd_same⟩⟩
end
end Lk
set_option maxRecDepth 100000
set_option maxHeartbeats 4000000
namespace Lk
open PySem PySem.Spec PyProof.Rows L2
/-! ### sets whose members are tuples of anything that is carried by value (texts, numbers): below 64 members -/
section
variable {P : Program} {w : World} {A : Around} {E : Value → Shared → Prop} {s : Shared} {κ : Type} [DecidableEq κ] {knd : KeyKind P w κ}
/-! set of a tuple, some twice; sorted(set(tuple of pairs)) -/
end
section
variable {X : Cx}
end
end Lk
set_option maxRecDepth 100000
set_option maxHeartbeats 4000000
namespace Lk
open PySem PySem.Spec PyProof.Rows L2
/-! ### the greatest number in a thing -/
mutual
def bigD : PyData → Nat
  | .int i => i.natAbs
  | .list ds => bigAll ds
  | .tuple ds => bigAll ds
  | .none => 0
  | .bool _ => 0
  | .str _ => 0
  | .dict _ => 0
def bigAll : List PyData → Nat
  | [] => 0
  | d :: ds => max (bigD d) (bigAll ds)
end
theorem bigAll_le {n : Nat} : ∀ {ds : List PyData}, (∀ d ∈ ds, bigD d ≤ n) → bigAll ds ≤ n
  | [], _ => by simp only [bigAll]; exact Nat.zero_le _
  | d :: ds, h => by
    simp only [bigAll]
    exact Nat.max_le.mpr ⟨h d List.mem_cons_self, bigAll_le fun e he => h e (List.mem_cons_of_mem _ he)⟩
theorem bigAll_mem : ∀ {ds : List PyData} {d : PyData}, d ∈ ds → bigD d ≤ bigAll ds
  | [], _, h => nomatch h
  | e :: ds, d, h => by
    simp only [bigAll]
    rcases List.mem_cons.mp h with z | z
    · rw [z]
      exact Nat.le_max_left _ _
    · exact Nat.le_trans (bigAll_mem z) (Nat.le_max_right _ _)
theorem big_of {n : Nat} {d : PyData} {ds : List PyData} (e : d = .list ds ∨ d = .tuple ds) (h : ∀ c ∈ ds, bigD c ≤ n) : bigD d ≤ n := by
  rcases e with e | e <;> subst e <;> simp only [bigD] <;> exact bigAll_le h
theorem big_item {d c : PyData} {ds : List PyData} (e : d = .list ds ∨ d = .tuple ds) (h : c ∈ ds) : bigD c ≤ bigD d := by
  rcases e with e | e <;> subst e <;> simp only [bigD] <;> exact bigAll_mem h
/-! ### texts -/
theorem shifted_ok {N : Nat} : ∀ {l : List (Nat × Nat × Nat)} {c r : Nat}, (l.all fun e => decide (e.2.2 + (e.2.1 - e.1) < N)) = true → Unicode.shifted l c = some r → r < N
  | [], _, _, _, h => nomatch h
  | (a, b, t) :: l, c, r, hl, h => by
    rw [List.all_cons, Bool.and_eq_true] at hl
    have h : (if c < a then none else if c ≤ b then some (t + (c - a)) else Unicode.shifted l c) = some r := h
    by_cases h1 : c < a
    · rw [if_pos h1] at h
      cases h
    · rw [if_neg h1] at h
      by_cases h2 : c ≤ b
      · rw [if_pos h2] at h
        have := of_decide_eq_true hl.1
        cases h
        show t + (c - a) < N
        have : t + (b - a) < N := this
        omega
      · rw [if_neg h2] at h
        exact shifted_ok hl.2 h
theorem one_ok : (UnicodeData.oneUpper.all fun e => decide (e.2.2 + (e.2.1 - e.1) < 0x110000)) = true := by decide +kernel
theorem several_ok : (UnicodeData.severalUpper.all fun e => e.2.all fun c => decide (c < 0x110000)) = true := by decide +kernel
theorem lookup_mem {α : Type} : ∀ {l : List (Nat × α)} {c : Nat} {x : α}, l.lookup c = some x → ∃ k, (k, x) ∈ l
  | [], _, _, h => nomatch h
  | (k, y) :: l, c, x, h => by
    rw [List.lookup_cons] at h
    split at h
    · cases h
      exact ⟨k, List.mem_cons_self⟩
    · obtain ⟨k', h'⟩ := lookup_mem h
      exact ⟨k', List.mem_cons_of_mem _ h'⟩
theorem upperOf_ok {c : Nat} (hc : c < 0x110000) : ∀ x ∈ Unicode.upperOf c, x < 0x110000 := by
  unfold Unicode.upperOf Unicode.image
  intro x hx
  cases e : UnicodeData.severalUpper.lookup c with
  | some cs =>
    rw [e] at hx
    obtain ⟨k, hk⟩ := lookup_mem e
    have h1 := List.all_eq_true.mp several_ok _ hk
    exact of_decide_eq_true (List.all_eq_true.mp h1 x hx)
  | none =>
    rw [e] at hx
    have hx : x ∈ [(Unicode.shifted UnicodeData.oneUpper c).getD c] := hx
    rw [List.mem_singleton.mp hx]
    cases e2 : Unicode.shifted UnicodeData.oneUpper c with
    | none => exact hc
    | some r => exact shifted_ok one_ok e2
theorem good_iff {x : Str} : Good x ↔ ∀ c ∈ x.cps.toList, c < 0x110000 := by
  unfold Good PyData.strOk
  rw [Array.all_eq_true']
  constructor
  · intro h c hc
    exact of_decide_eq_true (h c (Array.mem_toList_iff.mp hc))
  · intro h c hc
    exact decide_eq_true (h c (Array.mem_toList_iff.mpr hc))
theorem upper_good {x : Str} (h : Good x) : Good (Txt.upper x) := by
  rw [good_iff] at h ⊢
  intro c hc
  have hc : c ∈ (placed x fun _ c => Unicode.upperOf c).toList := hc
  unfold placed at hc
  rw [Array.mem_toList_iff, Array.mem_flatten] at hc
  obtain ⟨arr, ha, hc⟩ := hc
  rw [Array.mem_mapIdx] at ha
  obtain ⟨i, hi, rfl⟩ := ha
  refine upperOf_ok (c := x.cps[i]) (h _ (Array.mem_toList_iff.mpr (Array.getElem_mem hi))) c ?_
  simpa using hc
theorem app_good {x y : Str} (hx : Good x) (hy : Good y) : Good (x ++ y) := by
  rw [good_iff] at *
  intro c hc
  have hc : c ∈ (x.cps ++ y.cps).toList := hc
  rw [Array.toList_append] at hc
  exact (List.mem_append.mp hc).elim (hx c) (hy c)
theorem cut_good {x : Str} {lo hi : Option Int} (h : Good x) : Good (cutS x lo hi) := by
  rw [good_iff] at *
  intro c hc
  have hc : c ∈ (((x.cps.toList.drop (HT.sIx x.length 0 lo)).take (HT.sIx x.length x.length hi - HT.sIx x.length 0 lo)).toArray).toList := hc
  rw [List.toList_toArray] at hc
  exact h c (List.mem_of_mem_drop (List.mem_of_mem_take hc))
theorem int_good : ∀ i : Int, i.natAbs ≤ 50 → Good (toString i : Str) ∧ (toString i : Str).length ≤ 8 := by
  have h : ∀ n : Fin 101, PyData.strOk (toString ((n.val : Int) - 50) : Str) = true ∧ (toString ((n.val : Int) - 50) : Str).length ≤ 8 := by decide +kernel
  intro i hi
  have e := h ⟨(i + 50).toNat, by omega⟩
  have e1 : (((i + 50).toNat : Nat) : Int) - 50 = i := by omega
  simp only [e1] at e
  exact e
/-! ### numbers and truths -/
def numV : V → Option Int
  | .int i => some i
  | .bl b => some (b2i b)
  | _ => none
section
variable {X : Cx}
theorem op_addNum : OpR X (binaryOp .Add) (fun x y H Q => ∃ k j, numV x = some k ∧ y = .int j ∧ Q (.int (k + j)) H) := by
  intro pins s σ H x y v u Q I rx ry h
  obtain ⟨k, j, hx, rfl, q⟩ := h
  cases x with
  | int i =>
    cases hx
    exact op_add pins s σ H _ _ v u Q I rx ry ⟨_, _, rfl, rfl, q⟩
  | bl c =>
    cases hx
    cases rx
    obtain ⟨t, rfl⟩ := ry
    exact PySem.IntBool.add_bool_int ⟨.int (b2i c + j), H, I.tok _, ⟨_, rfl⟩, q⟩
  | _ => cases hx
theorem op_subNum : OpR X (binaryOp .Sub) (fun x y H Q => ∃ k j, numV x = some k ∧ y = .int j ∧ Q (.int (k - j)) H) := by
  intro pins s σ H x y v u Q I rx ry h
  obtain ⟨k, j, hx, rfl, q⟩ := h
  cases x with
  | int i =>
    cases hx
    exact op_sub pins s σ H _ _ v u Q I rx ry ⟨_, _, rfl, rfl, q⟩
  | bl c =>
    cases hx
    cases rx
    obtain ⟨t, rfl⟩ := ry
    exact PySem.IntBool.sub_bool_int ⟨.int (b2i c - j), H, I.tok _, ⟨_, rfl⟩, q⟩
  | _ => cases hx
theorem call_strNum : CallR X (.type "str") (fun xs H Q => ∃ x, xs = [x] ∧ ((∃ i : Int, x = .int i ∧ i.natAbs.log2 < 1920 ∧ Q (.str (toString i)) H) ∨ ∃ c : Bool, x = .bl c ∧ Q (.str (if c = true then "True" else "False")) H)) := by
  intro pins s σ H xs us Q I r h
  obtain ⟨x, rfl, h⟩ := h
  rcases h with ⟨i, rfl, hi, q⟩ | ⟨c, rfl, q⟩
  · exact call_str_int pins s σ H _ us Q I r ⟨i, rfl, hi, q⟩
  · obtain ⟨u, rfl, rfl⟩ := vals1 r
    exact PySem.P.str_of_bool ⟨.str _, H, I.tok _, ⟨_, rfl⟩, q⟩
/-! ### twice a list or a tuple; a cut of either -/
def rDblX : R2 := fun x y H Q => ∃ a xs, x = .ref a ∧ y = .ref a ∧ xs.length + xs.length ≤ sizeLine ∧ ((H a = some (.lst xs) ∧ ∀ p, H p = none → Q (.ref p) (upd H p (.lst (xs ++ xs)))) ∨ (TupX H a xs ∧ ∀ t H', Same H H' → TupX H' t (xs ++ xs) → (t = a ∨ H t = none) → Q (.ref t) H'))
theorem op_dblX : OpR X (binaryOp .Add) rDblX := by
  intro pins s σ H x y v u Q I rx ry h
  obtain ⟨a, xs, rfl, rfl, hz, h⟩ := h
  rcases h with ⟨ha, q⟩ | ⟨ha, q⟩
  · exact op_cat pins s σ H _ _ v u Q I rx ry ⟨a, a, xs, xs, rfl, rfl, ha, ha, hz, q⟩
  · cases rx
    cases ry
    obtain ⟨its, r1, p1, _⟩ := I.tuple (ha.sq (K := X.K))
    by_cases hx : xs = []
    · subst hx
      cases r1
      exact cat_tup0 p1 p1 ⟨.ref a, H, I, rfl, q a H (Same.refl H) ha (.inl rfl)⟩
    · refine HT.cat_tup p1 p1 (fun z => hx (r1.nil_iff.mp z)) (fun z => absurd (r1.nil_iff.mp z) hx) (fun z => ?_) (by rw [← r1.length]; exact hz)
      have hf : H s.heap.objs.size = none := I.hok.fresh (Nat.le_refl _)
      exact ⟨.ref s.heap.objs.size, _, laid_tup (xs := xs ++ xs) I (by rw [List.length_append]; exact hz) (r1.append r1), rfl, q _ _ (same_upd hf) (.inr ⟨_, rfl, upd_same⟩) (.inr hf)⟩
def rSlX (K : PySem.W.Frag) : V → Option Int → Option Int → Hp → VK → Prop := fun x lo hi H Q => ∃ a xs, x = .ref a ∧ ((H a = some (.lst xs) ∧ ∀ p, H p = none → Q (.ref p) (upd H p (.lst (cutV xs lo hi)))) ∨ (TupX H a xs ∧ ∀ t H', Same H H' → TupX H' t (cutV xs lo hi) → (t = a ∨ H t = none) → Q (.ref t) H'))
theorem sl_X : SlR X (rSlX X.K) := by
  intro pins s σ H x v vl vu lo hi sl Q I rx hs pl pu h
  obtain ⟨a, xs, rfl, h⟩ := h
  rcases h with ⟨ha, q⟩ | ⟨ha, q⟩
  · exact sl_list pins s σ H _ v vl vu lo hi sl Q I rx hs pl pu ⟨a, xs, rfl, .inl (.inl ha), q⟩
  · by_cases hw : HT.sIx xs.length 0 lo = 0 ∧ HT.sIx xs.length xs.length hi = xs.length
    · exact sl_tupA pins s σ H _ v vl vu lo hi sl Q I rx hs pl pu ⟨a, xs, rfl, ha.sq, fun _ => q a H (Same.refl H) (by rw [cutV_whole hw]; exact ha) (.inl rfl), fun z => absurd hw z⟩
    · cases rx
      obtain ⟨its, r, ht, hz⟩ := I.tuple (ha.sq (K := X.K))
      have hlen : its.toArray.size = xs.length := by rw [List.size_toArray]; exact r.length.symm
      refine ⟨"tuple", _, PyProof.Rows.slot_tuple_getitem.lookup, ht.typeIs, ?_⟩
      refine HT.getItem_tuple_cut ht hs pl pu (by rw [hlen]; exact hw) ?_ (by rw [hlen]; exact hz)
      rw [hlen]
      have hf : H s.heap.objs.size = none := I.hok.fresh (Nat.le_refl _)
      exact ⟨.ref s.heap.objs.size, _, laid_tup (xs := cutV xs lo hi) I (Nat.le_trans (cutV_length xs lo hi) hz) ((r.drop (HT.sIx xs.length 0 lo)).take (HT.sIx xs.length xs.length hi - HT.sIx xs.length 0 lo)), rfl, q _ _ (same_upd hf) (.inr ⟨_, rfl, upd_same⟩) (.inr hf)⟩
end
/-! ### text.strip(letters) == '' -/
/-! ### what is odd, what is bent -/
structure OddOk (m w : Nat) (d d' : PyData) : Prop where
  ok : Okd (m + 1) (3 * w + 60) d'
  wid : widD d' ≤ 2 * widD d + 2
  big : bigD d' ≤ bigD d + 2
  few : ∃ c1 c2, ∀ c ∈ itemsD d', c = c1 ∨ c = c2 ∨ c ∈ itemsD d
def spOddO : Sp := fun vs H Q _ => ∃ (b : Addr) (bad : Addr → Prop) (d : PyData) (v : V) (m w : Nat), vs = [.ref b, v] ∧ IsBox H b ∧ bad b ∧ (∀ a, bad a → H a ≠ none) ∧ Tr bad H d v ∧ Okd m w d ∧ w ≤ 100000 ∧ bigD d ≤ 40 ∧
  ∀ d' v' H', Oth b H H' → IsBox H' b → Tr bad H' d' v' → OddOk m w d d' → Q v' H'
def spBentO (n : Nat) : Sp := fun vs H Q _ => ∃ (b : Addr) (bad : Addr → Prop) (d : PyData) (v : V) (m w : Nat), vs = [.ref b, v] ∧ IsBox H b ∧ bad b ∧ (∀ a, bad a → H a ≠ none) ∧ Tr bad H d v ∧ d.depth < n ∧ Okd m w d ∧ w ≤ 100000 ∧ bigD d ≤ 40 ∧
  ∀ d' v' H', Oth b H H' → IsBox H' b → Tr bad H' d' v' → OddOk m w d d' → Q v' H'
theorem odd0_ok : ∀ d ∈ ([.none, .bool true, .bool false, .int 0, .int 1, .int (-1), .str "", .str "a", .str "abcdefghi", .str "A", .str "a b", .tuple [], .list [], .tuple [.str "a"], .tuple [.str "a", .str "a"], .list [.str "a", .str "b"]] : List PyData), Okd 1 60 d ∧ widD d ≤ 2 ∧ bigD d ≤ 1 ∧ ∀ c ∈ itemsD d, c = .str "a" ∨ c = .str "b" := by
  have g : Good "" ∧ Good "a" ∧ Good "abcdefghi" ∧ Good "A" ∧ Good "a b" ∧ Good "b" := by
    refine ⟨?_, ?_, ?_, ?_, ?_, ?_⟩ <;> (show PyData.strOk _ = true; decide +kernel)
  obtain ⟨g1, g2, g3, g4, g5, g6⟩ := g
  have e0 : OkL 0 60 [] := ⟨(fun _ h => nomatch h), by simp only [PyData.weightAll]; exact Nat.zero_le _⟩
  have ab : ∀ l : List PyData, (∀ c ∈ l, c = .str "a" ∨ c = .str "b") → PyData.weightAll l ≤ 60 → OkL 0 60 l := fun l h w => OkL.of (w := 10) (fun c hc => by
    rcases h c hc with e | e <;> rw [e]
    · exact okd_str g2 (by decide +kernel)
    · exact okd_str g6 (by decide +kernel)) w
  have m1 : ∀ c ∈ ([.str "a"] : List PyData), c = .str "a" ∨ c = .str "b" := fun c hc => by simp at hc; exact .inl hc
  have m2 : ∀ c ∈ ([.str "a", .str "a"] : List PyData), c = .str "a" ∨ c = .str "b" := fun c hc => by simp at hc; exact .inl hc
  have m3 : ∀ c ∈ ([.str "a", .str "b"] : List PyData), c = .str "a" ∨ c = .str "b" := fun c hc => by simpa using hc
  intro d hd
  simp only [List.mem_cons, List.not_mem_nil, or_false] at hd
  rcases hd with h | h | h | h | h | h | h | h | h | h | h | h | h | h | h | h <;> subst h
  · exact ⟨okd_none, by decide, by decide, fun _ h => nomatch h⟩
  · exact ⟨okd_bool _, by decide, by decide, fun _ h => nomatch h⟩
  · exact ⟨okd_bool _, by decide, by decide, fun _ h => nomatch h⟩
  · exact ⟨okd_int (by decide) (by decide), by decide, by decide, fun _ h => nomatch h⟩
  · exact ⟨okd_int (by decide) (by decide), by decide, by decide, fun _ h => nomatch h⟩
  · exact ⟨okd_int (by decide) (by decide), by decide, by decide, fun _ h => nomatch h⟩
  · exact ⟨okd_str g1 (by decide +kernel), by decide, by decide, fun _ h => nomatch h⟩
  · exact ⟨okd_str g2 (by decide +kernel), by decide, by decide, fun _ h => nomatch h⟩
  · exact ⟨okd_str g3 (by decide +kernel), by decide, by decide, fun _ h => nomatch h⟩
  · exact ⟨okd_str g4 (by decide +kernel), by decide, by decide, fun _ h => nomatch h⟩
  · exact ⟨okd_str g5 (by decide +kernel), by decide, by decide, fun _ h => nomatch h⟩
  · exact ⟨okd_tuple e0, by decide, by decide, fun _ h => nomatch h⟩
  · exact ⟨okd_list e0, by decide, by decide, fun _ h => nomatch h⟩
  · exact ⟨okd_tuple (ab _ m1 (by decide +kernel)), by decide, by decide, m1⟩
  · exact ⟨okd_tuple (ab _ m2 (by decide +kernel)), by decide, by decide, m2⟩
  · exact ⟨okd_list (ab _ m3 (by decide +kernel)), by decide, by decide, m3⟩
end Lk
set_option maxRecDepth 100000
set_option maxHeartbeats 4000000
namespace Lk
open PySem PySem.Spec PyProof.Rows L2
/-! ### friends of any shape -/
theorem encQ_okd {p : Str × Str} (h1 : NameOk p.1) (h2 : NameOk p.2) : Okd 1 18 (encQ p) := by
  have l1 := h1.len
  have l2 := h2.len
  refine okd_tuple (OkL.of (n := 0) (w := 8) (fun d hd => ?_) ?_)
  · simp only [List.mem_cons, List.not_mem_nil, or_false] at hd
    rcases hd with e | e <;> rw [e]
    · exact okd_str h1.good l1
    · exact okd_str h2.good l2
  · simp only [PyData.weightAll, PyData.weight]
    have e1 : p.1.cps.size = p.1.length := rfl
    have e2 : p.2.cps.size = p.2.length := rfl
    omega
theorem alk_bls {H : Hp} {n : Nat} {a b : Addr} {xs : List Bool} (h1 : H a = some (.lst (xs.map V.bl))) (h2 : H b = some (.lst (xs.map V.bl))) (hz : xs.length ≤ 1000) : Alk H (n + 2) (.ref a) (.ref b) :=
  .inr (.inl ⟨a, b, _, _, rfl, rfl, h1, h2, rfl, by rw [List.length_map]; exact hz, fun i u v hu hv => by
    rw [hu] at hv
    cases hv
    obtain ⟨z, _, rfl⟩ := at_map hu
    exact alk_bl z⟩)
theorem items_wid0 (d : PyData) : (itemsD d).length ≤ widD d ∧ ∀ c ∈ itemsD d, widD c ≤ widD d := by
  cases d with
  | list ds => exact ⟨wid_len (.inl rfl), fun c hc => wid_item (.inl rfl) hc⟩
  | tuple ds => exact ⟨wid_len (.inr rfl), fun c hc => wid_item (.inr rfl) hc⟩
  | _ => exact ⟨Nat.zero_le _, fun _ h => nomatch h⟩
end Lk
set_option maxRecDepth 100000
set_option maxHeartbeats 4000000
namespace Lk
open PySem PySem.Spec PyProof.Rows L2
/-! ### orders, rings, chains of any shape -/
def wordsX (ps : List (Str × Str)) (row : List Str) (x y : Str) : List Str := if x ∈ row ∧ y ∈ row then wordsOf ps row x y (row.idxOf x) (row.idxOf y) else []
theorem wordsX_in {ps : List (Str × Str)} {row : List Str} {x y z : Str} (h : z ∈ wordsX ps row x y) : x ∈ row ∧ y ∈ row := by
  unfold wordsX at h
  by_cases c : x ∈ row ∧ y ∈ row
  · exact c
  · rw [if_neg c] at h
    cases h
theorem wordsX_eq {ps : List (Str × Str)} {row : List Str} {x y : Str} (hx : x ∈ row) (hy : y ∈ row) : wordsX ps row x y = wordsOf ps row x y (row.idxOf x) (row.idxOf y) := if_pos ⟨hx, hy⟩
def spBarWX : Sp := fun vs H Q _ => ∃ (d r : Addr) (ps : List (Str × Str)) (row : List Str) (one other : Str), vs = [.ref d, .ref r, .str one, .str other] ∧ KnAt H d ps ∧ RowAt H r row ∧ row.length ≤ 100 ∧ row.Nodup ∧
  ∀ p H', Same H H' → H p = none → H' p = some (.lst ((wordsX ps row one other).map V.str)) → Q (.ref p) H'
def lkN : PyData → Str
  | .tuple [.str x, _] => x
  | _ => ""
def lkW : PyData → PyData
  | .tuple [_, w] => w
  | _ => .none
def linkB : PyData → Bool
  | .tuple [a, _] => nmB a
  | _ => false
def linksB : PyData → Bool
  | .list ds => decide (ds ≠ []) && (ds.all linkB && decide (ds.map lkN).Nodup)
  | _ => false
def onB (ps : List (Str × Str)) (row : List Str) (x : Str) (w : PyData) (y : Str) : Bool := match w with
  | .str z => decide (z ∈ wordsX ps row x y)
  | _ => false
def nextsX (ds : List PyData) (last : Str) : List Str := (ds.drop 1).map lkN ++ [last]
def onsB (ps : List (Str × Str)) (row : List Str) (ds : List PyData) (last : Str) : Bool := (ds.zip (nextsX ds last)).all fun z => onB ps row (lkN z.1) (lkW z.1) z.2
def ringP (ps : List (Str × Str)) (row : List Str) : PyData → Bool
  | .list ds => linksB (.list ds) && (decide (2 ≤ ds.length) && onsB ps row ds (lkN (ds.getD 0 .none)))
  | _ => false
def chainP (ps : List (Str × Str)) (row : List Str) (one other : Str) : PyData → Bool
  | .list ds => linksB (.list ds) && (decide (lkN (ds.getD 0 .none) = one) && (!decide (other ∈ ds.map lkN) && onsB ps row ds other))
  | _ => false
def orderP (ps : List (Str × Str)) (row : List Str) : PyData → Bool
  | .list ds => rowDB (.tuple ds) && decide (standOf ps (ds.map strPD) = row)
  | _ => false
/-! the law's -/
def stepB (row : List Str) : PyData → Bool
  | .tuple [.str x, .str _] => decide (x ∈ row)
  | _ => false
def stepsL (row : List Str) : PyData → Bool
  | .list ds => ds.all (stepB row) && decide (ds.map lkN).Nodup
  | _ => false
def ringL (ps : List (Str × Str)) (row : List Str) : PyData → Bool
  | .list ds => stepsL row (.list ds) && (decide (2 ≤ ds.length) && onsB ps row ds (lkN (ds.getD 0 .none)))
  | _ => false
def chainL (ps : List (Str × Str)) (row : List Str) (one other : Str) : PyData → Bool
  | .list ds => (stepsL row (.list ds) && decide (ds ≠ [])) && (decide (lkN (ds.getD 0 .none) = one) && (!decide (other ∈ ds.map lkN) && onsB ps row ds other))
  | _ => false
def orderL (ps : List (Str × Str)) (row : List Str) : PyData → Bool
  | .list ds => ds.all isS && (decide ((ds.map strPD).Perm row) && decide (standOf ps (ds.map strPD) = row))
  | _ => false
theorem nexts_len (ds : List PyData) (last : Str) (h : ds ≠ []) : (nextsX ds last).length = ds.length := by
  unfold nextsX
  rw [List.length_append, List.length_map, List.length_drop]
  have := List.length_pos_iff.mpr h
  show ds.length - 1 + 1 = ds.length
  omega
theorem ons_at {ps : List (Str × Str)} {row : List Str} {ds : List PyData} {last : Str} (h : onsB ps row ds last = true) : ∀ d ∈ ds, lkN d ∈ row ∧ ∃ z, lkW d = .str z := by
  intro d hd
  obtain ⟨i, hi⟩ := List.getElem?_of_mem hd
  have ne : ds ≠ [] := fun e => by rw [e] at hd; cases hd
  have li := (List.getElem?_eq_some_iff.mp hi).1
  have hy := List.getElem?_eq_getElem (l := nextsX ds last) (i := i) (by rw [nexts_len ds last ne]; exact li)
  have hz : (ds.zip (nextsX ds last))[i]? = some (d, (nextsX ds last)[i]'(by rw [nexts_len ds last ne]; exact li)) := List.getElem?_zip_eq_some.mpr ⟨hi, hy⟩
  have := List.all_eq_true.mp h _ (List.mem_of_getElem? hz)
  unfold onB at this
  cases e : lkW d with
  | str z =>
    rw [e] at this
    exact ⟨(wordsX_in (of_decide_eq_true this)).1, z, rfl⟩
  | _ => rw [e] at this; cases this
theorem links_steps {ps : List (Str × Str)} {row : List Str} {ds : List PyData} {last : Str} (nm : ∀ x ∈ row, NameOk x) (h : onsB ps row ds last = true) : ds.all linkB = ds.all (stepB row) := by
  refine all_congr_mem fun d hd => ?_
  obtain ⟨h1, z, h2⟩ := ons_at h d hd
  rw [Bool.eq_iff_iff]
  constructor
  · intro k
    match d, k with
    | .tuple [a, w], k =>
      have k : nmB a = true := k
      obtain ⟨e, _⟩ := nm_str k
      rw [e] at h1 ⊢
      have h2 : w = .str z := h2
      rw [h2]
      exact decide_eq_true h1
  · intro k
    match d, k with
    | .tuple [.str x, .str w], k => exact nb_iff.mpr (nm x (of_decide_eq_true k))
theorem ring_eq {ps : List (Str × Str)} {row : List Str} (nm : ∀ x ∈ row, NameOk x) (d : PyData) : ringL ps row d = ringP ps row d := by
  cases d with
  | list ds =>
    show ((ds.all (stepB row) && decide (ds.map lkN).Nodup) && (decide (2 ≤ ds.length) && onsB ps row ds (lkN (ds.getD 0 .none)))) = ((decide (ds ≠ []) && (ds.all linkB && decide (ds.map lkN).Nodup)) && (decide (2 ≤ ds.length) && onsB ps row ds (lkN (ds.getD 0 .none))))
    cases e : onsB ps row ds (lkN (ds.getD 0 .none)) with
    | false => simp
    | true =>
      rw [links_steps nm e]
      by_cases l : 2 ≤ ds.length
      · have ne : ds ≠ [] := fun z => by rw [z] at l; exact absurd l (by decide)
        rw [decide_eq_true ne, Bool.true_and]
      · rw [decide_eq_false l]
        simp
  | _ => rfl
theorem chain_eq {ps : List (Str × Str)} {row : List Str} {one other : Str} (nm : ∀ x ∈ row, NameOk x) (d : PyData) : chainL ps row one other d = chainP ps row one other d := by
  cases d with
  | list ds =>
    show (((ds.all (stepB row) && decide (ds.map lkN).Nodup) && decide (ds ≠ [])) && (decide (lkN (ds.getD 0 .none) = one) && (!decide (other ∈ ds.map lkN) && onsB ps row ds other))) = ((decide (ds ≠ []) && (ds.all linkB && decide (ds.map lkN).Nodup)) && (decide (lkN (ds.getD 0 .none) = one) && (!decide (other ∈ ds.map lkN) && onsB ps row ds other)))
    cases e : onsB ps row ds other with
    | false => simp
    | true =>
      rw [links_steps nm e, Bool.and_comm (decide (ds ≠ []))]
  | _ => rfl
theorem order_eq {ps : List (Str × Str)} {row : List Str} (nm : ∀ x ∈ row, NameOk x) (nd : row.Nodup) (d : PyData) : orderL ps row d = orderP ps row d := by
  cases d with
  | list ds =>
    show (ds.all isS && (decide ((ds.map strPD).Perm row) && decide (standOf ps (ds.map strPD) = row))) = ((ds.all nmB && decide (ds.map strPD).Nodup) && decide (standOf ps (ds.map strPD) = row))
    by_cases c : standOf ps (ds.map strPD) = row
    · have pm : (ds.map strPD).Perm row := c ▸ (stand_perm ps (ds.map strPD)).symm
      rw [decide_eq_true c, decide_eq_true pm, decide_eq_true (pm.nodup_iff.mpr nd), Bool.and_true, Bool.and_true, Bool.and_true, Bool.and_true]
      refine all_congr_mem fun d hd => ?_
      have mr := pm.mem_iff.mp (List.mem_map_of_mem hd)
      cases d with
      | str x => exact (nb_iff.mpr (nm x mr)).symm
      | _ => rfl
    · rw [decide_eq_false c]
      simp
  | _ => rfl
/-! ### promises of the program's -/
def spLinkD : Sp := fun vs H Q _ => ∃ (v : V) (bad : Addr → Prop) (d : PyData), vs = [v] ∧ Tr bad H d v ∧ d.weight ≤ 10000 ∧ ∀ H', Same H H' → Q (.bl (linkB d)) H'
def spLinksD : Sp := fun vs H Q _ => ∃ (v : V) (bad : Addr → Prop) (d : PyData), vs = [v] ∧ Tr bad H d v ∧ d.weight ≤ 10000 ∧ (itemsD d).length ≤ 90 ∧ ∀ H', Same H H' → Q (.bl (linksB d)) H'
/-- a list of pairs, the first a text -/
def PairL : PyData → Prop
  | .tuple [.str _, _] => True
  | _ => False
theorem link_pair {d : PyData} (h : linkB d = true) : PairL d := by
  match d, h with
  | .tuple [a, _], h =>
    obtain ⟨e, _⟩ := nm_str (show nmB a = true from h)
    rw [e]
    exact True.intro
theorem step_pair {row : List Str} {d : PyData} (h : stepB row d = true) : PairL d := by
  match d, h with
  | .tuple [.str _, .str _], _ => exact True.intro
theorem pair_form {d : PyData} (h : PairL d) : d = .tuple [.str (lkN d), lkW d] := by
  match d, h with
  | .tuple [.str _, _], _ => rfl
def spEachX : Sp := fun vs H Q _ => ∃ (a r t : Addr) (last : Str) (bad : Addr → Prop) (ps : List (Str × Str)) (row : List Str) (ds : List PyData) (xs : List V) (n : Nat), vs = [.ref a, .ref r, .ref t, .str last] ∧ FrAt H a ps ∧ ps.length ≤ 1000 ∧ RowAt H r row ∧ row.length ≤ 100 ∧ row.Nodup ∧ H t = some (.lst xs) ∧ TrAll bad H ds xs ∧ (∀ d ∈ ds, PairL d) ∧ ds ≠ [] ∧ ds.length ≤ 90 ∧ OkL n 10000 ds ∧ n ≤ 60 ∧
  ∀ H', Same H H' → Q (.bl (onsB ps row ds last)) H'
theorem pair_at {bad : Addr → Prop} {H : Hp} {d : PyData} {v : V} (h : PairL d) (tr : Tr bad H d v) : ∃ t x1, v = .ref t ∧ TupX H t [.str (lkN d), x1] ∧ Tr bad H (lkW d) x1 := by
  rw [pair_form h] at tr
  simp only [Tr] at tr
  obtain ⟨t, xs, rfl, nt, ht, tx⟩ := tr
  simp only [TrAll, Tr] at tx
  obtain ⟨x0, r0, rfl, rfl, x1, r1, rfl, tw, rfl⟩ := tx
  exact ⟨t, x1, rfl, ht, tw⟩
theorem any_on {ps : List (Str × Str)} {row : List Str} {x y : Str} {w : PyData} : (((wordsX ps row x y).map PyData.str).any fun z => PyData.eqv z w) = onB ps row x w y := by
  unfold onB
  generalize wordsX ps row x y = l
  induction l with
  | nil => cases w <;> simp
  | cons a l ih =>
    rw [List.map_cons, List.any_cons, ih]
    cases w with
    | str z =>
      rw [Bool.eq_iff_iff]
      simp only [PyData.eqv, Bool.or_eq_true, beq_iff_eq, decide_eq_true_eq, List.mem_cons]
      exact ⟨fun h => h.imp Eq.symm id, fun h => h.imp Eq.symm id⟩
    | _ => simp [PyData.eqv]
theorem words_shaped {ps : List (Str × Str)} {row : List Str} {x y : Str} : SeqAt.shaped (.list ((wordsX ps row x y).map .str)) = true := by
  obtain ⟨g1, g2, g3, g4, g5, g6⟩ := good9
  have each : ∀ z ∈ wordsX ps row x y, Good z := fun z hz => by
    unfold wordsX at hz
    by_cases c : x ∈ row ∧ y ∈ row
    · rw [if_pos c] at hz
      unfold wordsOf optW at hz
      rcases List.mem_append.mp hz with h | h
      · rcases List.mem_append.mp h with h | h
        · split at h
          · rw [List.mem_singleton.mp h]; exact g5
          · cases h
        · split at h
          · rw [List.mem_singleton.mp h]; exact g6
          · cases h
      · split at h
        · rw [List.mem_singleton.mp h]; exact g4
        · cases h
    · rw [if_neg c] at hz
      cases hz
  refine shaped_of (n := 1) (w := PyData.weightAll ((wordsX ps row x y).map .str)) (okd_list (OkL.of (n := 0) (w := PyData.weightAll ((wordsX ps row x y).map .str)) (fun d hd => ?_) (Nat.le_refl _))) (by decide)
  obtain ⟨z, hz, rfl⟩ := List.mem_map.mp hd
  have := weight_mem hd
  refine okd_str (each z hz) ?_
  simp only [PyData.weight] at this
  have e : z.cps.size = z.length := rfl
  omega
theorem at_map2 {α β : Type} {f : α → β} {xs : List α} {i : Nat} {y : β} (h : (xs.map f)[i]? = some y) : ∃ x, xs[i]? = some x ∧ f x = y := by
  rw [List.getElem?_map] at h
  obtain ⟨x, hx, e⟩ := Option.map_eq_some_iff.mp h
  exact ⟨x, hx, e⟩
def spShOX : Sp := fun vs H Q _ => ∃ (a r : Addr) (v : V) (bad : Addr → Prop) (ps : List (Str × Str)) (row : List Str) (d : PyData), vs = [.ref a, .ref r, v] ∧ FrAt H a ps ∧ ps.length ≤ 1000 ∧ RowAt H r row ∧ Goods row ∧ Tr bad H d v ∧ d.weight ≤ 10000 ∧ (itemsD d).length ≤ 90 ∧ ∀ H', Same H H' → Q (.bl (orderP ps row d)) H'
def spShRX : Sp := fun vs H Q _ => ∃ (a r : Addr) (v : V) (bad : Addr → Prop) (ps : List (Str × Str)) (row : List Str) (d : PyData) (n : Nat), vs = [.ref a, .ref r, v] ∧ FrAt H a ps ∧ ps.length ≤ 1000 ∧ RowAt H r row ∧ row.length ≤ 100 ∧ row.Nodup ∧ Tr bad H d v ∧ Okd n 10000 d ∧ n ≤ 60 ∧ (itemsD d).length ≤ 90 ∧ ∀ H', Same H H' → Q (.bl (ringP ps row d)) H'
def spShCX : Sp := fun vs H Q _ => ∃ (a r : Addr) (one other : Str) (v : V) (bad : Addr → Prop) (ps : List (Str × Str)) (row : List Str) (d : PyData) (n : Nat), vs = [.ref a, .ref r, .str one, .str other, v] ∧ FrAt H a ps ∧ ps.length ≤ 1000 ∧ RowAt H r row ∧ row.length ≤ 100 ∧ row.Nodup ∧ Tr bad H d v ∧ Okd n 10000 d ∧ n ≤ 60 ∧ (itemsD d).length ≤ 90 ∧ ∀ H', Same H H' → Q (.bl (chainP ps row one other d)) H'
/-! ### promises of the law's -/
def spStepsX : Sp := fun vs H Q _ => ∃ (a t : Addr) (v : V) (bad : Addr → Prop) (stand : List Str) (d : PyData), vs = [.ref a, .ref t, v] ∧ TupAt H t (stand.map V.str) ∧ Tr bad H d v ∧ (itemsD d).length ≤ 90 ∧ ∀ H', Same H H' → Q (.bl (stepsL stand d)) H'
def spOrdX : Sp := fun vs H Q _ => ∃ (a t : Addr) (v : V) (bad : Addr → Prop) (ps : List (Str × Str)) (stand : List Str) (d : PyData) (n : Nat), vs = [.ref a, .ref t, v] ∧ PalsAt H a ps ∧ PalsOk ps ∧ TupAt H t (stand.map V.str) ∧ Goods stand ∧ stand.length < 64 ∧ Tr bad H d v ∧ Okd n 10000 d ∧ (itemsD d).length < 64 ∧ ∀ H', Same H H' → Q (.bl (orderL ps stand d)) H'
def spStOnX : Sp := fun vs H Q _ => ∃ (a t p : Addr) (last : Str) (bad : Addr → Prop) (ps : List (Str × Str)) (stand : List Str) (ds : List PyData) (xs : List V), vs = [.ref a, .ref t, .ref p, .str last] ∧ PalsAt H a ps ∧ PalsOk ps ∧ TupAt H t (stand.map V.str) ∧ Goods stand ∧ stand.Nodup ∧ stand.length ≤ 100 ∧ H p = some (.lst xs) ∧ TrAll bad H ds xs ∧ (∀ d ∈ ds, stepB stand d = true) ∧ last ∈ stand ∧ ds ≠ [] ∧ ds.length ≤ 90 ∧ ∀ H', Same H H' → Q (.bl (onsB ps stand ds last)) H'
def spRgX : Sp := fun vs H Q _ => ∃ (a t : Addr) (v : V) (bad : Addr → Prop) (ps : List (Str × Str)) (stand : List Str) (d : PyData), vs = [.ref a, .ref t, v] ∧ PalsAt H a ps ∧ PalsOk ps ∧ TupAt H t (stand.map V.str) ∧ Goods stand ∧ stand.Nodup ∧ stand.length ≤ 100 ∧ Tr bad H d v ∧ (itemsD d).length ≤ 90 ∧ ∀ H', Same H H' → Q (.bl (ringL ps stand d)) H'
def spChX : Sp := fun vs H Q _ => ∃ (a t : Addr) (one other : Str) (v : V) (bad : Addr → Prop) (ps : List (Str × Str)) (stand : List Str) (d : PyData), vs = [.ref a, .ref t, .str one, .str other, v] ∧ PalsAt H a ps ∧ PalsOk ps ∧ TupAt H t (stand.map V.str) ∧ Goods stand ∧ stand.Nodup ∧ stand.length ≤ 100 ∧ other ∈ stand ∧ Tr bad H d v ∧ (itemsD d).length ≤ 90 ∧ ∀ H', Same H H' → Q (.bl (chainL ps stand one other d)) H'
theorem okd_good {n w : Nat} {x : Str} (h : Okd n w (.str x)) : Good x := by
  have : PyData.strOk x = true := by
    have := h.lay
    simpa only [PyData.canLay0] using this
  exact this
def pairB : PyData → Bool
  | .tuple ds => decide (ds.length = 2)
  | _ => false
theorem pairB_two {d : PyData} (h : pairB d = true) : ∃ x y, d = .tuple [x, y] := by
  match d, h with
  | .tuple [x, y], _ => exact ⟨x, y, rfl⟩
theorem step_two {stand : List Str} {d : PyData} (h : stepB stand d = true) : pairB d = true := by
  match d, h with
  | .tuple [.str _, .str _], _ => rfl
theorem stepsL_false {stand : List Str} {ds : List PyData} (h : ds.all pairB = false) : stepsL stand (.list ds) = false := by
  show (ds.all (stepB stand) && decide (ds.map lkN).Nodup) = false
  have : ds.all (stepB stand) = false := by
    rw [Bool.eq_false_iff] at h ⊢
    intro k
    exact h (List.all_eq_true.mpr fun d hd => step_two (List.all_eq_true.mp k d hd))
  rw [this, Bool.false_and]
theorem all_notF {α : Type} {f : α → Bool} {xs : List α} {x : α} (hx : x ∈ xs) (h : f x = false) : xs.all f = false := by
  rw [Bool.eq_false_iff]
  intro k
  rw [List.all_eq_true.mp k x hx] at h
  cases h
theorem stepB_two {stand : List Str} {x y : PyData} : stepB stand (.tuple [x, y]) = (isS x && (isS y && decide (strPD x ∈ stand))) := by
  cases x <;> cases y <;> rfl
theorem step_form {stand : List Str} {d : PyData} (h : stepB stand d = true) : ∃ x z, d = .tuple [.str x, .str z] ∧ x ∈ stand := by
  match d, h with
  | .tuple [.str x, .str z], h => exact ⟨x, z, rfl, of_decide_eq_true h⟩
theorem steps_all {stand : List Str} {ds : List PyData} (h : stepsL stand (.list ds) = true) : ∀ d ∈ ds, stepB stand d = true := by
  have h : (ds.all (stepB stand) && decide (ds.map lkN).Nodup) = true := h
  exact List.all_eq_true.mp ((Bool.and_eq_true _ _).mp h).1
theorem words_three {ps : List (Str × Str)} {stand : List Str} {x y z : Str} {i j : Nat} (h : z ∈ wordsOf ps stand x y i j) : Good z ∧ NameOk z := by
  obtain ⟨g1, g2, g3, g4, g5, g6⟩ := good9
  have one : ∀ {c : Bool} {v : Str}, z ∈ optW c v → z = v := fun {c v} h => by
    unfold optW at h
    split at h
    · exact List.mem_singleton.mp h
    · cases h
  unfold wordsOf at h
  rcases List.mem_append.mp h with h | h
  · rcases List.mem_append.mp h with h | h
    · rw [one h]
      exact ⟨g5, nb_iff.mp (by decide +kernel)⟩
    · rw [one h]
      exact ⟨g6, nb_iff.mp (by decide +kernel)⟩
  · rw [one h]
    exact ⟨g4, nb_iff.mp (by decide +kernel)⟩
/-- what a chain holds: pairs of one who stands and a word -/
def ChOk (stand : List Str) (c : B3) : Prop := c.2.1 ∈ stand ∧ Good c.2.2 ∧ NameOk c.2.2
def spSomeCh : Sp := fun vs H Q _ => ∃ (b a t : Addr) (ps : List (Str × Str)) (stand : List Str), vs = [.ref b, .ref a, .ref t] ∧ IsBox H b ∧ PalsAt H a ps ∧ PalsOk ps ∧ TupAt H t (stand.map V.str) ∧ Goods stand ∧ stand.Nodup ∧ stand.length ≤ 60 ∧ stand ≠ [] ∧
  ∀ (T L : Addr) (ts : List B3) (last : Str) (H' : Hp), Oth b H H' → IsBox H' b → TupAt H' T [.ref L, .str last] → L ≠ b → H' L = some (.lst (refs ts)) → PairsAt H' ts → (∀ c ∈ ts, ChOk stand c) → ts.length ≤ 4 → last ∈ stand → Q (.ref T) H'
def spSeenX : Sp := fun vs H Q _ => ∃ (b a t : Addr) (v : V) (bad : Addr → Prop) (ps : List (Str × Str)) (stand : List Str) (d : PyData) (n : Nat), vs = [.ref b, .ref a, .ref t, v] ∧ IsBox H b ∧ PalsAt H a ps ∧ PalsOk ps ∧ ps.length ≤ 1000 ∧ TupAt H t (stand.map V.str) ∧ (∀ x ∈ stand, NameOk x) ∧ stand.Nodup ∧ stand.length ≤ 60 ∧ stand ≠ [] ∧ bad b ∧ Tr bad H d v ∧ Okd n 10000 d ∧ n ≤ 10 ∧ (itemsD d).length < 64 ∧
  ∀ H', Oth b H H' → IsBox H' b → Q (.bl true) H'
/-! ### the things -/
def Th0 (d : PyData) : Prop := Okd 2 400 d ∧ widD d ≤ 12 ∧ bigD d ≤ 0
def ThA (d : PyData) : Prop := Okd 4 4000 d ∧ widD d ≤ 60
theorem encL_th {qs : List (Str × Str)} (h : ∀ q ∈ qs, NameOk q.1 ∧ NameOk q.2) (l : qs.length ≤ 8) : Th0 (.list (qs.map encQ)) := by
  refine ⟨okd_list (OkL.of (n := 1) (w := 18) (fun d hd => ?_) ?_), wid_of (.inl rfl) (by rw [List.length_map]; omega) fun c hc => ?_, big_of (.inl rfl) fun c hc => ?_⟩
  · obtain ⟨p, hp, rfl⟩ := List.mem_map.mp hd
    exact encQ_okd (h p hp).1 (h p hp).2
  · have all : ∀ ps : List (Str × Str), (∀ p ∈ ps, p ∈ qs) → PyData.weightAll (ps.map encQ) ≤ 19 * ps.length := fun ps => by
      induction ps with
      | nil => exact fun _ => by simp only [List.map_nil, PyData.weightAll]; exact Nat.zero_le _
      | cons p r ih =>
        intro k
        have i1 := ih fun x hx => k x (List.mem_cons_of_mem _ hx)
        have i2 := (encQ_okd (h p (k p List.mem_cons_self)).1 (h p (k p List.mem_cons_self)).2).fit.wt
        simp only [List.map_cons, PyData.weightAll, List.length_cons]
        omega
    have := all _ fun _ h => h
    omega
  · obtain ⟨p, hp, rfl⟩ := List.mem_map.mp hc
    simp [encQ, widD, widAll]
  · obtain ⟨p, hp, rfl⟩ := List.mem_map.mp hc
    simp [encQ, bigD, bigAll]
theorem strs_th {xs : List Str} (h : ∀ x ∈ xs, NameOk x) (l : xs.length ≤ 8) {d : PyData} (e : d = .list (xs.map .str) ∨ d = .tuple (xs.map .str)) : Th0 d ∧ Okd 1 100 d := by
  have ok := (names_okl h).mono (n' := 0) (w' := 100) (Nat.le_refl _) (by omega)
  have k : Okd 1 100 d := by
    rcases e with e | e <;> subst e
    · exact okd_list ok
    · exact okd_tuple ok
  refine ⟨⟨k.mono (by decide) (by decide), wid_of e (by rw [List.length_map]; omega) fun c hc => ?_, big_of e fun c hc => ?_⟩, k⟩
  · obtain ⟨x, hx, rfl⟩ := List.mem_map.mp hc
    simp only [widD]
    exact Nat.zero_le _
  · obtain ⟨x, hx, rfl⟩ := List.mem_map.mp hc
    simp only [bigD]
    exact Nat.le_refl _
theorem enc_tr {bad : Addr → Prop} {H : Hp} : ∀ {bs : List B3}, PairsAt H bs → (∀ c ∈ bs, ¬ bad c.1) → TrAll bad H ((bs.map (·.2)).map encQ) (refs bs)
  | [], _, _ => .nil
  | c :: r, h, n => .cons (tr_tup (n c List.mem_cons_self) (.inl (h c List.mem_cons_self)) (.cons (tr_str _) (.cons (tr_str _) .nil))) (enc_tr (fun x hx => h x (List.mem_cons_of_mem _ hx)) fun x hx => n x (List.mem_cons_of_mem _ hx))
theorem ring_ons {ps : List (Str × Str)} {row left : List Str} {ring : List (Str × Str)} (sub : ∀ x ∈ left, x ∈ row) (k : RingOk ps row left ring) : onsB ps row (ring.map encQ) (lkN ((ring.map encQ).getD 0 .none)) = true := by
  have ne : ring ≠ [] := fun z => by
    have := k.two
    rw [z] at this
    exact absurd this (by decide)
  obtain ⟨q0, r, rfl⟩ : ∃ q0 r, ring = q0 :: r := by
    cases ring with
    | nil => exact absurd rfl ne
    | cons a b => exact ⟨a, b, rfl⟩
  have nm : ∀ qs : List (Str × Str), (qs.map encQ).map lkN = qs.map (·.1) := fun qs => by
    rw [List.map_map]
    rfl
  have e1 : nextsX ((q0 :: r).map encQ) (lkN (((q0 :: r).map encQ).getD 0 .none)) = ((q0 :: r).map (·.1)).drop 1 ++ ((q0 :: r).map (·.1)).take 1 := by
    show (r.map encQ).map lkN ++ [q0.1] = r.map (·.1) ++ [q0.1]
    rw [nm]
  unfold onsB
  rw [e1, List.all_eq_true]
  intro z hz
  obtain ⟨i, hi⟩ := List.getElem?_of_mem hz
  obtain ⟨z1, z2⟩ := List.getElem?_zip_eq_some.mp hi
  obtain ⟨q, hq, e2⟩ := at_map2 z1
  rw [← e2]
  have b := k.bar i q.1 q.2 z.2 hq z2
  have m1 : q.1 ∈ row := sub _ (k.sub _ (List.mem_map_of_mem (List.mem_of_getElem? hq)))
  have m2 : z.2 ∈ row := sub _ (k.sub _ (by
    rcases List.mem_append.mp (List.mem_of_getElem? z2) with h | h
    · exact List.mem_of_mem_drop h
    · exact List.mem_of_mem_take h))
  show decide (q.2 ∈ wordsX ps row q.1 z.2) = true
  rw [wordsX_eq m1 m2]
  exact decide_eq_true b
theorem ring_words {ps : List (Str × Str)} {row left : List Str} {ring : List (Str × Str)} (nm : ∀ x ∈ row, NameOk x) (sub : ∀ x ∈ left, x ∈ row) (k : RingOk ps row left ring) : ∀ q ∈ ring, NameOk q.1 ∧ NameOk q.2 := fun q hq => by
  refine ⟨nm _ (sub _ (k.sub _ (List.mem_map_of_mem hq))), ?_⟩
  obtain ⟨i, hi⟩ := List.getElem?_of_mem hq
  have li := (List.getElem?_eq_some_iff.mp hi).1
  have ll : ((ring.map (·.1)).drop 1 ++ (ring.map (·.1)).take 1).length = ring.length := by
    rw [List.length_append, List.length_drop, List.length_take, List.length_map]
    have := k.two
    omega
  have hy := List.getElem?_eq_getElem (l := (ring.map (·.1)).drop 1 ++ (ring.map (·.1)).take 1) (i := i) (by omega)
  exact (words_three (k.bar i q.1 q.2 _ hi hy)).2
theorem strs_noring {ps : List (Str × Str)} {row xs : List Str} : ringP ps row (.list (xs.map .str)) = false := by
  show ((decide (xs.map PyData.str ≠ []) && ((xs.map PyData.str).all linkB && _)) && _) = false
  cases xs with
  | nil => rfl
  | cons x r =>
    have : ((x :: r).map PyData.str).all linkB = false := rfl
    rw [this, Bool.false_and, Bool.and_false, Bool.false_and]
theorem enc_noorder {ps : List (Str × Str)} {row : List Str} {qs : List (Str × Str)} (ne : qs ≠ []) : orderP ps row (.list (qs.map encQ)) = false := by
  cases qs with
  | nil => exact absurd rfl ne
  | cons x r => rfl
theorem ord_thing {H : Hp} {b p : Addr} {word : Str} {ps : List (Str × Str)} {row : List Str} (irr : Irr ps) (nd : row.Nodup) (nm : ∀ x ∈ row, NameOk x) (l8 : row.length ≤ 8) (h : OrdAt H p word ps row) (hb : IsBox H b) (np : p ≠ b) :
    ∃ d, Tr (fun z => z = b) H d (.ref p) ∧ Th0 d ∧ orderP ps row d = decide (V.str word = V.str "order") ∧ ringP ps row d = decide (V.str word = V.str "ring") := by
  obtain ⟨g1, g2, g3⟩ := gone_red (stay := []) irr row.length row rfl nd
  rcases h with ⟨h1, rfl, h3⟩ | ⟨h1, rfl, bs, h3, h4, h5⟩
  · have st := gone_stand irr row.length row rfl nd h1
    have pm : ((goneO ps [] row).reverse).Perm row := by
      have h := (stand_perm ps (goneO ps [] row).reverse).symm
      rw [st] at h
      exact h
    have nm' : ∀ x ∈ (goneO ps [] row).reverse, NameOk x := fun x hx => nm x (pm.subset hx)
    refine ⟨.list ((goneO ps [] row).reverse.map .str), tr_lst np h3 (TrAll.strs _), (strs_th nm' (by rw [pm.length_eq]; exact l8) (.inl rfl)).1, ?_, ?_⟩
    · show (((((goneO ps [] row).reverse.map PyData.str).all nmB && decide (((goneO ps [] row).reverse.map PyData.str).map strPD).Nodup)) && decide (standOf ps (((goneO ps [] row).reverse.map PyData.str).map strPD) = row)) = true
      have e1 : ((goneO ps [] row).reverse.map PyData.str).map strPD = (goneO ps [] row).reverse := by
        rw [List.map_map]
        exact List.map_id _
      rw [e1, st, decide_eq_true rfl, decide_eq_true (pm.nodup_iff.mpr nd), Bool.and_true, Bool.and_true, List.all_eq_true]
      intro d hd
      obtain ⟨x, hx, rfl⟩ := List.mem_map.mp hd
      exact nb_iff.mpr (nm' x hx)
    · rw [strs_noring]
      rfl
  · have k := ringOf_ok nd g1 g2 h1
    rw [← h5] at k
    have sub : ∀ x ∈ goneR ps [] row, x ∈ row := fun x hx => g1.sub x hx
    have nk := ring_words nm sub k
    have lr : (bs.map (·.2)).length ≤ 8 := by
      have a1 := ring_len k
      have a2 := nd_len _ _ (g1.nodup nd) sub
      omega
    have two := k.two
    have ne : bs.map (·.2) ≠ [] := fun z => by
      rw [z] at two
      exact absurd two (by decide)
    refine ⟨.list ((bs.map (·.2)).map encQ), tr_lst np h3 (enc_tr h4 fun c hc => hb.ne_tup (h4 c hc)), encL_th nk lr, ?_, ?_⟩
    · rw [enc_noorder ne]
      rfl
    · have o := ring_ons sub k
      have l1 : ((bs.map (·.2)).map encQ).all linkB = true := List.all_eq_true.mpr fun d hd => by
        obtain ⟨q, hq, rfl⟩ := List.mem_map.mp hd
        exact nb_iff.mpr (nk q hq).1
      have l2 : ((bs.map (·.2)).map encQ).map lkN = (bs.map (·.2)).map (·.1) := by
        rw [List.map_map]
        rfl
      show ((decide ((bs.map (·.2)).map encQ ≠ []) && (((bs.map (·.2)).map encQ).all linkB && decide (((bs.map (·.2)).map encQ).map lkN).Nodup)) && (decide (2 ≤ ((bs.map (·.2)).map encQ).length) && onsB ps row ((bs.map (·.2)).map encQ) (lkN (((bs.map (·.2)).map encQ).getD 0 .none)))) = true
      have f1 : 2 ≤ ((bs.map (·.2)).map encQ).length := by rw [List.length_map]; exact two
      have f2 : (bs.map (·.2)).map encQ ≠ [] := fun z => ne (List.map_eq_nil_iff.mp z)
      rw [o, l1, l2, decide_eq_true k.nd, decide_eq_true f1, decide_eq_true f2]
      rfl
/-! ### calls by all their names, turned about -/
structure CalR (P : Program) (w : World) (K : PySem.W.Frag) (mg : Str → Option Value) (base : Heap) (k : Nat) (x : Str) (ps ks : List Str) (sp : Sp) : Prop where
  ex : ∃ f fd, FnOk P w K mg base CX0 k f fd ps sp ∧ mg x = some (.ref f) ∧ PySem.W.keepIn K (.ref f) = true ∧ Binds K fd ps [] ∧ KBinds K fd ps ks gRev gRev
theorem CalR.cal {P : Program} {w : World} {K : PySem.W.Frag} {mg : Str → Option Value} {base : Heap} {k : Nat} {x : Str} {ps ks : List Str} {sp : Sp} (C : CalR P w K mg base k x ps ks sp) : Cal P w K mg base k x ps sp := by
  obtain ⟨f, fd, F, hm, hk, hb, _⟩ := C.ex
  exact ⟨f, fd, F, hm, hk, hb⟩
section
variable {X : Cx} {k n : Nat} {x : Str} {ps ks : List Str} {sp : Sp} {p pos : Pos} {kws : List Keyword} {tk : TA}
theorem pe_calR (C : CalR X.prog X.w X.K X.mg X.base k x ps ks sp) (hr : Room n X.A) (hkw : PK X kws tk) (hle : k ≤ n := by first | decide | omega) (hg : Gl X x := by rfl) (hdb : (x == ("__debug__" : Str)) = false := by decide)
    (hall : (backToKw pos (keywordEach kws X.env)).all (·.1.isSome) = true := by rfl) (hks : (backToKw pos (keywordEach kws X.env)).filterMap (·.1) = ks := by rfl)
    (hpl : ((backTo pos (starEach [] X.env)).any (·.1) || (backToKw pos (keywordEach kws X.env)).any (·.1.isNone)) = false := by rfl) :
    PE X (.Call (.Name x p) [] kws pos) (tCallK sp gRev E0 tNil tk) := by
  obtain ⟨f, fd, F, hm, hk, _, hb⟩ := C.ex
  exact pe_callK0 F (hr.mono hle) hg hm hk hb pass0 hkw hall hks hdb hpl
end
theorem barW_X {vs : List V} {H : Hp} {Q : VK} {E : XK} (h : spBarW vs H Q E) : spBarWX vs H Q E := by
  obtain ⟨d, r, ps, row, one, other, i, j, rfl, hd, hrow, hn, nd, hi, hj, q⟩ := h
  refine ⟨d, r, ps, row, one, other, rfl, hd, hrow, hn, nd, fun p H' s n e => ?_⟩
  rw [wordsX_eq (List.mem_of_getElem? hi) (List.mem_of_getElem? hj), idx_at nd hi, idx_at nd hj] at e
  exact q p H' s n e
end Lk
set_option maxRecDepth 100000
set_option maxHeartbeats 4000000
namespace Lk
open PySem PySem.Spec PyProof.Rows L2
def topS (i : Nat) : Stmt := PySem.Challenge.pw_letinrow_k11_orders_rings_chains_shown.main.body.getD i (.Pass ⟨0, 0, 0, 0⟩)
section
variable {P : Program} {w : World} {K : PySem.W.Frag} {mg : Str → Option Value} {base : Heap}
/-! ### _law_take -/
abbrev sTake : Stmt := topS 33
theorem scTake : FnScope ["_law_box_here", "_law_many", "_law_found", "_law_blend"] ["_law_box_here", "_law_many"] (defScope sTake) := ⟨rfl, rfl, rfl, by decide +kernel, rfl, by decide +kernel, by decide +kernel⟩
theorem ok_take {f : Addr} {fd : FuncData} (F : Fun K "_law_take" "_law_take" sTake f fd) : FnOk P w K mg base CX0 1 f fd ["_law_box_here", "_law_many"] spTake := by
  refine fok F scTake (fun vs H Q E h => ?_) (fun cdv A outer s H vs Q E hr h => ?_)
  · obtain ⟨b, many, rfl, _⟩ := h
    rfl
  obtain ⟨b, many, rfl, ⟨x, y, z, hb⟩, h0, h1, q⟩ := h
  refine ⟨_, pss_cons (ps_if (pt_cmpR op_gt (pe_ix ix_list (pv 0) pe_int (fun _ _ => rfl)) pe_int (nomark _))
      (pss_cons (ps_set (i := 2) scTake.nd rfl (.inl rfl) (pe_op op_mod (pe_ix ix_list (pv 0) pe_int (fun _ _ => rfl)) (pv 1)))
      (pss_cons (ps_asg (pe_op op_fdiv (pe_ix ix_list (pv 0) pe_int (fun _ _ => rfl)) (pv 1)) (pg_sub (pv 0) pe_int set_list))
      (pss_one (ps_ret (pv 2))))) pss_nil)
    (pss_cons (ps_asg (pe_op op_add (pe_ix ix_list (pv 0) pe_int (fun _ _ => rfl)) pe_int) (pg_sub (pv 0) pe_int set_list))
    (pss_cons (ps_set (i := 3) scTake.nd rfl (.inl rfl) (pe_op op_mod (pe_op op_add (pe_ix ix_list (pv 0) pe_int (fun _ _ => rfl)) (pe_op op_mul pe_int (pe_ix ix_list (pv 0) pe_int (fun _ _ => rfl)))) pe_int))
    (pss_cons (ps_set (i := 3) scTake.nd rfl (.inl rfl) (pe_op op_mod (pe_op op_add (pe_op op_add (pe_op op_mul (pv 3) (pv 3)) (pe_op op_mul pe_int (pe_ix ix_list (pv 0) pe_int (fun _ _ => rfl)))) pe_int) pe_int))
    (pss_cons (ps_set (i := 3) scTake.nd rfl (.inl rfl) (pe_op op_mod (pe_op op_add (pe_op op_mul (pv 3) (pe_op op_add (pe_op op_fdiv (pv 3) pe_int) pe_int)) (pe_ix ix_list (pv 0) pe_int (fun _ _ => rfl))) pe_int))
    (pss_one (ps_ret (pe_op op_mod (pe_op op_fdiv (pv 3) pe_int) (pv 1)))))))), ?_⟩
  have hL : SqL K H b [.int x, .int y, .int z] := .inl (.inl hb)
  refine ⟨.ref b, rfl, b, _, 0, _, rfl, rfl, hL, atI_nat (j := 0) rfl, _, _, rfl, rfl, _, rfl, ?_⟩
  refine ite2 (fun c => ?_) (fun c => ?_)
  · refine ⟨.ref b, rfl, b, _, 0, _, rfl, rfl, hL, atI_nat (j := 0) rfl, _, rfl, _, _, rfl, rfl, h0, ?_⟩
    refine ⟨.ref b, rfl, b, _, 0, _, rfl, rfl, hL, atI_nat (j := 0) rfl, _, rfl, _, _, rfl, rfl, ⟨h0, h1⟩, ?_⟩
    refine ⟨.ref b, rfl, b, _, 0, 0, rfl, rfl, hb, rfl, ?_⟩
    exact ⟨_, rfl, q _ _ Oth.upd ⟨_, _, _, upd_same⟩ (Int.emod_nonneg _ (by omega)) (Int.emod_lt_of_pos _ h0)⟩
  · refine ⟨.ref b, rfl, b, _, 2, _, rfl, rfl, hL, atI_nat (j := 2) rfl, _, _, rfl, rfl, ?_⟩
    refine ⟨.ref b, rfl, b, _, 2, 2, rfl, rfl, hb, rfl, ?_⟩
    have hU : upd H b (.lst ([.int x, .int y, .int z].set 2 (.int (z + 1)))) b = some (.lst [.int x, .int y, .int (z + 1)]) := upd_same
    have hL2 : SqL K (upd H b (.lst ([.int x, .int y, .int z].set 2 (.int (z + 1))))) b [.int x, .int y, .int (z + 1)] := .inl (.inl hU)
    refine ⟨.ref b, rfl, b, _, 1, _, rfl, rfl, hL2, atI_nat (j := 1) rfl, .ref b, rfl, b, _, 2, _, rfl, rfl, hL2, atI_nat (j := 2) rfl, _, _, rfl, rfl, .inl (by decide), _, _, rfl, rfl, _, _, rfl, rfl, (by show (0 : Int) < 2305843009213693951; decide), ?_⟩
    generalize hm1 : (y + 1442695040888963407 * (z + 1)) % 2305843009213693951 = m1
    have b1 : 0 ≤ m1 ∧ m1 < 2305843009213693951 := by
      rw [← hm1]
      exact ⟨Int.emod_nonneg _ (by decide), Int.emod_lt_of_pos _ (by decide)⟩
    refine ⟨_, rfl, _, rfl, _, _, rfl, rfl, .inl ⟨by omega, by omega⟩, .ref b, rfl, b, _, 2, _, rfl, rfl, hL2, atI_nat (j := 2) rfl, _, _, rfl, rfl, .inl (by decide), _, _, rfl, rfl, _, _, rfl, rfl, _, _, rfl, rfl, (by show (0 : Int) < 2305843009213693921; decide), ?_⟩
    generalize hm2 : (m1 * m1 + 39373 * (z + 1) + 7) % 2305843009213693921 = m2
    have b2 : 0 ≤ m2 ∧ m2 < 2305843009213693921 := by
      rw [← hm2]
      exact ⟨Int.emod_nonneg _ (by decide), Int.emod_lt_of_pos _ (by decide)⟩
    refine ⟨_, rfl, _, rfl, _, _, rfl, rfl, ⟨by decide, by decide⟩, _, _, rfl, rfl, _, _, rfl, rfl, .inl ⟨by omega, by omega⟩, .ref b, rfl, b, _, 2, _, rfl, rfl, hL2, atI_nat (j := 2) rfl, _, _, rfl, rfl, _, _, rfl, rfl, (by show (0 : Int) < 2305843009213693907; decide), ?_⟩
    generalize (m2 * (m2 / 65536 + 3) + (z + 1)) % 2305843009213693907 = m3
    refine ⟨_, rfl, _, _, rfl, rfl, ⟨by decide, by decide⟩, _, rfl, _, _, rfl, rfl, h0, ?_⟩
    exact q _ _ Oth.upd ⟨_, _, _, upd_same⟩ (Int.emod_nonneg _ (by omega)) (Int.emod_lt_of_pos _ h0)
/-! ### _law_box -/
abbrev sBox : Stmt := topS 32
theorem scBox : FnScope ["_law_cells_here", "_law_k", "_law_cell"] ["_law_cells_here", "_law_k"] (defScope sBox) := ⟨rfl, rfl, rfl, by decide +kernel, rfl, by decide +kernel, by decide +kernel⟩
theorem ok_box {f : Addr} {fd : FuncData} (B : Blt mg) (F : Fun K "_law_box" "_law_box" sBox f fd) : FnOk P w K mg base CX0 1 f fd ["_law_cells_here", "_law_k"] spBox := by
  refine fok F scBox (fun vs H Q E h => ?_) (fun cdv A outer s H vs Q E hr h => ?_)
  · obtain ⟨a, ns, k, rfl, _⟩ := h
    rfl
  obtain ⟨a, ns, k, rfl, ha, hk, hk2, q⟩ := h
  refine ⟨_, pss_cons (ps_set (i := 2) scBox.nd rfl (.inl rfl) (pe_ix ix_list (pv 0) (pv 1) (fun _ _ => rfl)))
    (pss_one (ps_ret (pe_lst (pa_cons (pe_op op_mul (pe_callB call_abs (by rfl) B.abs (by decide +kernel) (pa_cons (pv 2) pa_nil)) (pe_callTy call_int1 (by rfl) B.int (by decide +kernel) (pa_cons (pe_cmpR op_ge (pe_callB call_abs (by rfl) B.abs (by decide +kernel) (pa_cons (pv 2) pa_nil)) (pe_op op_pow pe_int pe_int) (nomark _)) pa_nil)))
      (pa_cons (pe_op op_add (pe_op op_add (pe_op op_mod (pv 2) pe_int) (pe_op op_mul pe_int (pv 1))) pe_int) (pa_cons pe_int pa_nil)))))), ?_⟩
  obtain ⟨c, hc⟩ : ∃ c, ns[k]? = some c := ⟨ns[k], List.getElem?_eq_getElem hk⟩
  refine ⟨.ref a, rfl, .int k, rfl, a, _, k, .int c, rfl, rfl, .inl (.inl ha), atI_nat (ix_map hc), ?_⟩
  refine ⟨_, rfl, _, rfl, _, rfl, _, rfl, _, _, rfl, rfl, ⟨by decide, by decide, by decide⟩, _, _, rfl, rfl, .inr ⟨_, rfl, _, _, rfl, rfl, .inr (bit01 _), ?_⟩⟩
  refine ⟨_, rfl, _, _, rfl, rfl, (by show (0 : Int) < 2305843009213693951; decide), _, rfl, _, _, rfl, rfl, .inl (by decide), _, _, rfl, rfl, _, _, rfl, rfl, (by show 3 ≤ sizeLine; decide), fun p hp => ?_⟩
  exact q p _ (same_upd hp) hp ⟨_, _, _, upd_same⟩
/-! ### _law_cells -/
abbrev sCells : Stmt := topS 34
theorem scCells : FnScope ["_law_script", "_law_utmost", "_law_cells_here", "_law_k", "_law_cell"] ["_law_script", "_law_utmost"] (defScope sCells) := ⟨rfl, rfl, rfl, by decide +kernel, rfl, by decide +kernel, by decide +kernel⟩
theorem ok_cells {f : Addr} {fd : FuncData} (B : Blt mg) (F : Fun K "_law_cells" "_law_cells" sCells f fd) : FnOk P w K mg base CX0 1 f fd ["_law_script", "_law_utmost"] (spCells K) := by
  refine fok F scCells (fun vs H Q E h => ?_) (fun cdv A outer s H vs Q E hr h => ?_)
  · obtain ⟨a, ns, k, rfl, _⟩ := h
    rfl
  obtain ⟨a, ns, u, rfl, ha, hn, h0, h3, q⟩ := h
  refine ⟨_, pss_cons (ps_set (i := 2) scCells.nd rfl (.inl rfl) (pe_orT (pe_callTy call_list_of (by rfl) B.list (by decide +kernel) (pa_cons (pe_slice sl_list (pv 0) po_none (po_some (pv 1))) pa_nil)) (pe_one (pe_lst (pa_cons pe_int pa_nil)))))
    (pss_cons (ps_for PassesOwn.never rfl (pi_enum (by rfl) B.enumerate (pa_cons (pe_slice sl_list (pv 0) (po_some (pv 1)) (po_some pe_int)) pa_nil))
        (pg_tup rfl (pgs_cons (pg_name (i := 3) scCells.nd rfl (.inl rfl)) (pgs_cons (pg_name (i := 4) scCells.nd rfl (.inl rfl)) pgs_nil)))
      (pss_one (ps_asg (pe_op op_add (pe_ix ix_list (pv 2) (pe_op op_mod (pv 3) (pv 1)) (fun _ _ => rfl)) (pe_op op_mul (pv 4) (pe_op op_add (pv 3) pe_int))) (pg_sub (pv 2) (pe_op op_mod (pv 3) (pv 1)) set_list))))
    (pss_one (ps_ret (pv 2)))), ?_⟩
  -- what follows once cells stand at c
  have rest : ∀ (c : Addr) (ms : List Int) (H1 : Hp), Same H H1 → H c = none → H1 c = some (.lst (ms.map V.int)) → 0 < ms.length → ms.length ≤ 3 → (u < ns.length → ms.length = u) → ∀ (D : Ends) , D.rt = Q → 
      (tSeq (tFor (iEnum K (tCons (tSl (rSlL K) (tVar 0) (tPart (tVar 1)) (tPart (tC (.int 63)))) tNil)) (gTup K 2 (gCons (gName 3) (gCons (gName 4) gNil))) (tAsg (tOp (rI0 fun i j => .int (i + j)) (tOp (rIxL K) (tVar 2) (tOp (rI (fun _ j => 0 < j) fun i j => .int (i % j)) (tVar 3) (tVar 1))) (tOp (rI CMul fun i j => .int (i * j)) (tVar 4) (tOp (rI0 fun i j => .int (i + j)) (tVar 3) (tC (.int 2))))) (gSub (tVar 2) (tOp (rI (fun _ j => 0 < j) fun i j => .int (i % j)) (tVar 3) (tVar 1)) rSetL))) (tRet (tVar 2))) D [some (.ref a), some (.int u), some (.ref c), none, none] H1 := by
    intro c ms H1 s1 nc hc m0 m3 mu D hD
    refine ⟨.ref a, rfl, _, rfl, u, rfl, 63, rfl, a, _, rfl, s1.seq ha, fun p hp => ?_⟩
    have s2 : Same H1 (upd H1 p (.lst (cutV (ns.map V.int) (some u) (some 63)))) := same_upd hp
    have npc : c ≠ p := ne_of_none hc hp
    rw [cutV_map]
    generalize hr2 : cutL ns (some (u : Int)) (some 63) = r2
    refine ⟨p, r2.map V.int, rfl, .inl (.inl upd_same), ?_⟩
    refine for_it (walk_enum (xs := r2.map V.int)) (fun i σ H3 => ∃ (y3 y4 : Option V) (ms' : List Int), σ = [some (.ref a), some (.int u), some (.ref c), y3, y4] ∧ Same H H3 ∧ H3 p = some (.lst (r2.map V.int)) ∧ H3 c = some (.lst (ms'.map V.int)) ∧ ms'.length = ms.length) ?_ ?_ ?_ ?_
    · exact ⟨none, none, ms, rfl, s1.trans (same_upd hp), upd_same, (upd_ne npc).trans hc, rfl⟩
    · rintro i σ H3 _ ⟨y3, y4, ms', rfl, e1, e2, e3, e4⟩
      exact .inl (.inl e2)
    · rintro i x σ H3 H4 hi ⟨y3, y4, ms', rfl, e1, e2, e3, e4⟩ ⟨T, x1, x2, rfl, nT, rfl, f1, f2⟩
      cases f1
      obtain ⟨z, hz, rfl⟩ := at_map f2
      rw [List.length_map] at hi
      have hun : u < ns.length := cutL_has (k := u) (hi := some 63) (by rw [hr2]; omega)
      have hml := mu hun
      have nTc : c ≠ T := ne_of_none e3 nT
      have nTp : p ≠ T := ne_of_none e2 nT
      refine ⟨T, _, rfl, .inl (.inl upd_same), rfl, _, _, rfl, _, _, rfl, rfl, ?_⟩
      have hlt : i % u < ms'.length := by
        rw [e4, hml]
        exact Nat.mod_lt _ h0
      have e3' : upd H3 T (.tup [.int (i : Nat), .int z]) c = some (.lst (ms'.map V.int)) := (upd_ne nTc).trans e3
      have eim : ((i : Int) % (u : Int)) = ((i % u : Nat) : Int) := (Int.natCast_emod i u).symm
      have hi2 : i < 63 := by
        have q1 := cutL_le ns (some (u : Int)) (some 63)
        rw [hr2] at q1
        omega
      refine ⟨.ref c, rfl, _, rfl, _, rfl, _, _, rfl, rfl, (by show (0 : Int) < u; omega), c, _, _, .int ms'[i % u], rfl, rfl, .inl (.inl e3'), (by rw [eim]; exact atI_nat (ix_map (List.getElem?_eq_getElem hlt))), ?_⟩
      refine ⟨_, rfl, _, rfl, _, _, rfl, rfl, _, _, rfl, rfl, .inr ⟨by omega, by omega⟩, _, _, rfl, rfl, ?_⟩
      refine ⟨.ref c, rfl, _, rfl, _, rfl, _, _, rfl, rfl, (by show (0 : Int) < u; omega), c, _, _, i % u, rfl, rfl, e3', ?_, ?_⟩
      · rw [eim, List.length_map]
        unfold ixN
        rw [if_pos (by omega), if_pos (by omega), Int.toNat_natCast]
      · refine ⟨_, _, ms'.set (i % u) (ms'[i % u] + z * ((i : Int) + 2)), rfl, fun b o e => ?_, ?_, ?_, ?_⟩
        · rw [upd_ne (ne_of_none e nc)]
          exact same_upd nT _ _ (e1 b o e)
        · rw [upd_ne (Ne.symm npc), upd_ne nTp]
          exact e2
        · rw [upd_same, ← set_map]
        · rw [List.length_set]
          exact e4
    · rintro σ H3 ⟨y3, y4, ms', rfl, e1, e2, e3, e4⟩
      refine ⟨.ref c, rfl, ?_⟩
      rw [hD]
      exact q c ms' H3 e1 nc e3 (by omega) (by omega)
  -- cells = list(script[:u]) or [0]
  refine ⟨.ref a, rfl, .int u, rfl, u, rfl, a, _, rfl, ha, fun p hp => ?_⟩
  rw [cutV_map, cutL_to]
  refine ⟨p, _, rfl, .inl (.inl (.inl upd_same)), fun l hl => ?_⟩
  have s2 : Same H (upd H p (.lst ((ns.take u).map V.int))) := same_upd hp
  have s3 := s2.trans (same_upd (o := .lst ((ns.take u).map V.int)) hl)
  refine ⟨_, .inl ⟨_, .inl (.inl upd_same), rfl⟩, ?_⟩
  refine ite2 (fun z => ?_) (fun z => ?_)
  · have hne : 0 < ns.length := by
      cases ns with
      | nil => rw [List.take_nil] at z; cases z
      | cons n r => exact Nat.succ_pos _
    refine rest l (ns.take u) _ s3 (s2.free hl) upd_same ?_ ?_ ?_ _ rfl
    · rw [List.length_take]
      omega
    · rw [List.length_take]
      omega
    · intro z
      rw [List.length_take]
      omega
  · have hne : ns.length = 0 := by
      cases ns with
      | nil => rfl
      | cons n r =>
        have e : u = (u - 1) + 1 := by omega
        rw [e, List.take_succ_cons] at z
        exact absurd rfl z
    refine ⟨(by show 1 ≤ sizeLine; decide), fun c hc => ?_⟩
    exact rest c [0] _ (s3.trans (same_upd hc)) (s3.free hc) upd_same (by decide) (by decide) (fun z => absurd z (by omega)) _ rfl
/-! ### _law_names -/
abbrev sNames : Stmt := topS 35
abbrev nNames : List Str := ["_law_box_here", "_law_many", "_law_letters", "_law_first", "_law_found", "_law_stem", "_law_step", "_law_few", "_law_k", "_law_cut", "_law_name", "_law_turn"]
theorem scNames : FnScope nNames ["_law_box_here", "_law_many"] (defScope sNames) := ⟨rfl, rfl, rfl, by decide +kernel, rfl, by decide +kernel, by decide +kernel⟩
theorem ok_names {f : Addr} {fd : FuncData} (B : Blt mg) (CT : Cal P w K mg base 1 "_law_take" ["_law_box_here", "_law_many"] spTake) (F : Fun K "_law_names" "_law_names" sNames f fd) : FnOk P w K mg base CX0 2 f fd ["_law_box_here", "_law_many"] spNames := by
  refine fok F scNames (fun vs H Q E h => ?_) (fun cdv A outer s H vs Q E hr h => ?_)
  · obtain ⟨b, many, rfl, _⟩ := h
    rfl
  obtain ⟨b, many, rfl, hb, hm, q⟩ := h
  refine ⟨_, pss_cons (ps_asg (pe_tup (pa_cons pe_str (pa_cons (pe_cal CT hr (pa_cons (pv 0) (pa_cons pe_int pa_nil))) (pa_cons (pe_lst pa_nil) pa_nil)))) (pg_tup rfl (pgs_cons (pg_name (i := 2) scNames.nd rfl (.inr rfl)) (pgs_cons (pg_name (i := 3) scNames.nd rfl (.inl rfl)) (pgs_cons (pg_name (i := 4) scNames.nd rfl (.inl rfl)) pgs_nil)))))
    (pss_cons (ps_set (i := 5) scNames.nd rfl (.inl rfl) (pe_join pe_str
      (pe_lc (own := [("_law_turn", 11)]) (g := gName 11) (tt := tYes) rfl scNames.nd (pi_range1 (by rfl) B.range (pa_cons (pe_cal CT hr (pa_cons (pv 0) (pa_cons pe_int pa_nil))) pa_nil)) (blkOk_by (N := nNames) (sc := defScope sNames) (by decide +kernel)) (fun _ _ _ _ _ => pg_name (i := 11) scNames.nd rfl (Or.inl rfl)) (fun _ _ _ _ _ => pts_nil)
        (fun _ _ _ _ _ => pe_ix ix_str (pv 2) (pe_cal CT hr (pa_cons (pv 0) (pa_cons pe_int pa_nil))) (fun _ _ => rfl)))))
    (pss_cons (ps_par (i := 6) (j := 7) (by rfl) scNames.nd rfl rfl (by decide) rfl rfl (pa_cons (pe_ix ix_list (pe_lst (pa_cons pe_int (pa_cons pe_int (pa_cons pe_int (pa_cons pe_int pa_nil))))) (pe_cal CT hr (pa_cons (pv 0) (pa_cons pe_int pa_nil))) (fun _ _ => rfl)) (pa_cons (pe_callTy call_int1 (by rfl) B.int (by decide +kernel) (pa_cons (pe_cmpR op_eq (pe_op op_mod (pv 3) pe_int) pe_int (nomark _)) pa_nil)) pa_nil)) (by rfl))
    (pss_cons (ps_for PassesOwn.never rfl (pi_range1 (by rfl) B.range (pa_cons (pv 1) pa_nil)) (pg_name (i := 8) scNames.nd rfl (.inl rfl))
      (pss_cons (ps_set (i := 9) scNames.nd rfl (.inl rfl) (pe_op op_sub (pe_callB call_len_str (by rfl) B.len PySem.boot_len (pa_cons (pv 5) pa_nil)) (pe_op op_mul (pv 7) (pe_op op_mod (pv 8) pe_int))))
      (pss_cons (ps_set (i := 10) scNames.nd rfl (.inl rfl) (pe_op op_add_str (pe_slice sl_str (pv 5) po_none (po_some (pv 9))) (pe_ix ix_str (pv 2) (pe_op op_mod (pe_op op_add (pv 3) (pe_op op_mul (pv 6) (pv 8))) pe_int) (fun _ _ => rfl))))
      (pss_one (ps_expr (pe_bm PySem.F.plainAttrs_list PySem.F.slot_list_insert PySem.F.type_list_insert mt_insert (pv 4) (pa_cons (pe_cal CT hr (pa_cons (pv 0) (pa_cons (pe_op op_add (pe_callB call_len_seq (by rfl) B.len PySem.boot_len (pa_cons (pv 4) pa_nil)) pe_int) pa_nil))) (pa_cons (pv 10) pa_nil))))))))
    (pss_one (ps_ret (pv 4)))))), ?_⟩
  -- letters, first, found
  refine ⟨.ref b, rfl, b, 26, rfl, hb, by decide, by decide, fun first H1 o1 b1 f0 f1 => ⟨(by show 0 ≤ sizeLine; decide), fun l hl => ?_⟩⟩
  refine ⟨(by show 3 ≤ sizeLine; decide), fun t ht => ?_⟩
  have nlb : l ≠ b := b1.ne_none hl
  have ntl : t ≠ l := fun z => by rw [z, upd_same] at ht; cases ht
  have ntb : t ≠ b := fun z => by
    rw [z, upd_ne (Ne.symm nlb)] at ht
    exact b1.ne_none ht rfl
  have nl : H l = none := o1.free nlb hl
  refine ⟨t, _, rfl, .inl (.inl upd_same), rfl, _, _, rfl, _, _, rfl, _, _, rfl, rfl, ?_⟩
  dsimp only
  generalize hH2 : upd (upd H1 l (.lst [])) t (.tup [.str (Str.ofString "abcdefghijklmnopqrstuvwxyz"), .int first, .ref l]) = H2
  have o2 : Oth b H H2 := o1.trans (fun a o n e => by
    rw [← hH2]
    exact same_upd ht _ _ (same_upd hl _ _ e))
  have b2 : IsBox H2 b := by
    rw [← hH2]
    exact (b1.same (same_upd hl)).same (same_upd ht)
  have l2 : H2 l = some (.lst []) := by
    rw [← hH2, upd_ne (Ne.symm ntl), upd_same]
  -- stem
  refine ⟨⟨_, rfl⟩, .ref b, rfl, b, 8, rfl, b2, by decide, by decide, fun n H3 o3 b3 n0 n1 => ⟨n, rfl, by omega, by omega, fun D hD => ?_⟩⟩
  have nDb : D ≠ b := b3.ne_none hD
  have l3 : H3 l = some (.lst []) := o3 _ _ nlb l2
  have nDl : l ≠ D := ne_of_none l3 hD
  refine lc_it (walk_range (lo := 0) (n := n.toNat)) (fun i H' => ∃ ys : List Str, Oth b H H' ∧ IsBox H' b ∧ H' l = some (.lst []) ∧ H' D = some (.lst (ys.map V.str)) ∧ ys.length = i ∧ ∀ y ∈ ys, IsOne y) ?_ (fun _ _ _ _ => trivial) ?_ ?_
  · refine ⟨[], fun a o na e => ?_, b3.same (same_upd hD), (upd_ne nDl).trans l3, upd_same, rfl, fun _ h => nomatch h⟩
    exact same_upd hD _ _ (o3 _ _ na (o2 _ _ na e))
  · rintro i x H4 H5 hi ⟨ys, o4, b4, l4, d4, y1, y2⟩ ⟨rfl, rfl⟩
    refine ⟨rfl, ⟨.str abc, rfl, .ref b, rfl, b, 26, rfl, b4, by decide, by decide, fun v H6 o6 b6 v0 v1 => ⟨abc, v, 97 + v.toNat, rfl, rfl, (by rw [abc_len]; decide), abc_ix v0 v1, ys.map V.str, o6 _ _ nDb d4, ?_, ?_⟩⟩⟩
    · rw [List.length_map]
      exact small1000 (by omega)
    · have s6 : ∀ a o, a ≠ D → H6 a = some o → upd H6 D (.lst (ys.map V.str ++ [.str ⟨#[97 + v.toNat]⟩])) a = some o := fun a o na e => by rw [upd_ne na]; exact e
      refine ⟨ys ++ [⟨#[97 + v.toNat]⟩], fun a o na e => ?_, ?_, s6 _ _ nDl (o6 _ _ nlb l4), ?_, ?_, ?_⟩
      · have q6 := o6 _ _ na (o4 _ _ na e)
        by_cases z : a = D
        · subst z
          have q3 := o3.free nDb hD
          rw [o2 _ _ na e] at q3
          cases q3
        · exact s6 _ _ z q6
      · obtain ⟨i1, i2, i3, e⟩ := b6
        exact ⟨i1, i2, i3, s6 _ _ (Ne.symm nDb) e⟩
      · rw [upd_same, List.map_append]
        rfl
      · rw [List.length_append, y1]
        rfl
      · intro y hy
        rcases List.mem_append.mp hy with z | z
        · exact y2 y z
        · have e : y = ⟨#[97 + v.toNat]⟩ := by simpa using z
          exact ⟨v.toNat, by omega, e⟩
  · rintro H4 ⟨ys, o4, b4, l4, d4, y1, y2⟩
    have z1 := ones_len y2
    refine ⟨_, D, ys, rfl, rfl, .inl (.inl (.inl d4)), ?_, ?_⟩
    · rw [z1]
      have z2 : (Str.ofString "").length = 0 := by decide +kernel
      rw [z2]
      omega
    have w1 := ones_flat y2
    rw [← join0] at w1
    generalize Txt.join (Str.ofString "") ys = stem at w1
    have w2 : (tlx stem).length ≤ 7 := by rw [w1.1]; omega
    have w3 : Low (tlx stem) := w1.2
    clear w1 z1
    -- step, few
    refine ⟨(by show 4 ≤ sizeLine; decide), fun p hp => ⟨.ref b, rfl, b, 4, rfl, b4.same (same_upd hp), by decide, by decide, fun v H5 o5 b5 v0 v1 => ?_⟩⟩
    obtain ⟨step, hst, hat⟩ := menu4 v0 v1
    have npb : p ≠ b := b4.ne_none hp
    have o5' : Oth b H H5 := fun a o na e => o5 _ _ na (same_upd hp _ _ (o4 _ _ na e))
    have l5 : H5 l = some (.lst []) := o5 _ _ nlb (same_upd hp _ _ l4)
    refine ⟨p, _, v, .int step, rfl, rfl, .inl (.inl (o5 _ _ npb upd_same)), hat, ?_⟩
    refine ⟨.int first, rfl, _, _, rfl, rfl, (by show (0 : Int) < 4; decide), rfl, .inr ⟨_, rfl, _, _, rfl, ?_⟩⟩
    generalize hk : (decide (V.int (first % 4) = V.int 3)) = kf
    have hf := bit2 kf
    generalize (if kf = true then 1 else 0 : Int) = few at hf
    -- the loop
    refine ⟨.int many, rfl, many, rfl, by omega, by omega, ?_⟩
    refine for_it (walk_range (lo := 0) (n := (many : Int).toNat)) (fun i σ H' => ∃ (y8 y9 y10 y11 : Option V) (names : List Str), σ = [some (.ref b), some (.int many), some (.str abc), some (.int first), some (.ref l), some (.str stem), some (.int step), some (.int few), y8, y9, y10, y11] ∧ Oth b H H' ∧ IsBox H' b ∧ H' l = some (.lst (names.map V.str)) ∧ names.length = i ∧ names.Nodup ∧ ∀ x ∈ names, NameOk x ∧ ∃ j : Nat, j < i ∧ lastC x = some (97 + ((first + step * (j : Int)) % 26).toNat)) ?_ (fun _ _ _ _ _ => trivial) ?_ ?_
    · exact ⟨_, _, _, _, [], rfl, o5', b5, l5, rfl, List.nodup_nil, fun _ h => nomatch h⟩
    · rintro i x σ H7 H6 hi ⟨y8, y9, y10, y11, names, rfl, o6, b6, l6, m1, m2, m3⟩ ⟨rfl, rfl⟩
      have hi2 : i < 26 := by omega
      have hsl : stem.length ≤ sizeLine := by rw [len_tlx]; exact small_le (by omega)
      refine ⟨_, rfl, _, rfl, hsl, _, rfl, _, rfl, _, _, rfl, rfl, (by show (0 : Int) < 3; decide), _, _, rfl, rfl, .inl ⟨by omega, by omega⟩, _, _, rfl, rfl, ?_⟩
      dsimp only
      generalize (stem.length : Int) - few * ((0 + (i : Int)) % 3) = cut
      have c0 : 0 ≤ (first + step * (0 + (i : Int))) % 26 := Int.emod_nonneg _ (by decide)
      have c1 : (first + step * (0 + (i : Int))) % 26 < 26 := Int.emod_lt_of_pos _ (by decide)
      refine ⟨_, rfl, _, rfl, cut, rfl, stem, rfl, hsl, _, rfl, _, rfl, _, rfl, _, rfl, _, _, rfl, rfl, ?_, _, _, rfl, rfl, _, _, rfl, rfl, (by show (0 : Int) < 26; decide), abc, _, _, rfl, rfl, (by rw [abc_len]; decide), abc_ix c0 c1, _, _, rfl, rfl, ?_, ?_⟩
      · rcases hst with rfl | rfl | rfl | rfl <;> exact .inl (by decide)
      · rw [len_tlx, cutS_tlx]
        have z := cutL_le (tlx stem) none (some cut)
        exact small_le (by show _ + 1 ≤ 1000; omega)
      rw [Int.zero_add] at c0 c1 ⊢
      have nok : NameOk (cutS stem none (some cut) ++ ⟨#[97 + ((first + step * (i : Int)) % 26).toNat]⟩) := name_ok w2 w3 (by omega)
      have nla := lastC_app (cutS stem none (some cut)) (97 + ((first + step * (i : Int)) % 26).toNat)
      generalize (cutS stem none (some cut) ++ ⟨#[97 + ((first + step * (i : Int)) % 26).toNat]⟩ : Str) = nm at nok nla
      have hnew : nm ∉ names := fun hm2 => by
        obtain ⟨_, j, hj, ej⟩ := m3 nm hm2
        rw [nla] at ej
        have q1 := Option.some.inj ej
        have q2 := apart hst hj hi2 first
        have q3 : 0 ≤ (first + step * (j : Int)) % 26 := Int.emod_nonneg _ (by decide)
        omega
      -- found.insert(take(box, len(found) + 1), name)
      have L6 : SqL K H6 l (names.map V.str) := .inl (.inl l6)
      refine ⟨.ref l, rfl, .inl ⟨rfl, _, L6⟩, .ref b, rfl, .ref l, rfl, l, _, rfl, .inl L6, _, _, rfl, rfl, b, _, rfl, b6, by omega, ?_, fun v H8 o8 b8 v0 v1 => ?_⟩
      · rw [List.length_map]
        omega
      have l8 : H8 l = some (.lst (names.map V.str)) := o8 _ _ nlb l6
      refine ⟨_, rfl, l, _, v, _, rfl, rfl, l8, ?_, v0, ?_, ?_⟩
      · rw [List.length_map]
        exact small1000 (by omega)
      · rw [List.length_map] at v1
        omega
      have pm := ins_perm names v.toNat nm
      refine ⟨_, _, _, _, names.take v.toNat ++ [nm] ++ names.drop v.toNat, rfl, fun a o na e => ?_, ?_, ?_, ?_, ?_, ?_⟩
      · have e8 := o8 _ _ na (o6 _ _ na e)
        rw [upd_ne (ne_of_none e nl)]
        exact e8
      · obtain ⟨i1, i2, i3, e⟩ := b8
        exact ⟨i1, i2, i3, (upd_ne (Ne.symm nlb)).trans e⟩
      · rw [upd_same, ins_map]
      · rw [pm.length_eq, List.length_cons, m1]
      · exact pm.nodup_iff.mpr (List.nodup_cons.mpr ⟨hnew, m2⟩)
      · intro x hx
        rcases List.mem_cons.mp (pm.mem_iff.mp hx) with rfl | hx
        · exact ⟨nok, i, Nat.lt_succ_self _, nla⟩
        · obtain ⟨z1, j, z2, z3⟩ := m3 x hx
          exact ⟨z1, j, Nat.lt_succ_of_lt z2, z3⟩
    · rintro σ H6 ⟨y8, y9, y10, y11, names, rfl, o6, b6, l6, m1, m2, m3⟩
      exact ⟨.ref l, rfl, q l names H6 o6 b6 nl l6 (by omega) m2 fun x hx => (m3 x hx).1⟩
/-! ### _law_pals -/
abbrev sPals : Stmt := topS 36
abbrev nPals : List Str := ["_law_box_here", "_law_pool", "_law_way", "_law_found", "_law_side", "_law_k", "_law_mine", "_law_j", "_law_fine", "_law_name"]
theorem scPals : FnScope nPals ["_law_box_here", "_law_pool"] (defScope sPals) := ⟨rfl, rfl, rfl, by decide +kernel, rfl, by decide +kernel, by decide +kernel⟩
theorem ok_pals {f : Addr} {fd : FuncData} (B : Blt mg) (CT : Cal P w K mg base 1 "_law_take" ["_law_box_here", "_law_many"] spTake) (F : Fun K "_law_pals" "_law_pals" sPals f fd) : FnOk P w K mg base CX0 2 f fd ["_law_box_here", "_law_pool"] spPals := by
  refine fok F scPals (fun vs H Q E h => ?_) (fun cdv A outer s H vs Q E hr h => ?_)
  · obtain ⟨b, l, pool, rfl, _⟩ := h
    rfl
  obtain ⟨b, l, pool, rfl, hb, hl, hnd, hn, q⟩ := h
  refine ⟨_, pss_cons (ps_par (i := 2) (j := 3) (by rfl) scPals.nd rfl rfl (by decide) rfl rfl (pa_cons (pe_cal CT hr (pa_cons (pv 0) (pa_cons pe_int pa_nil))) (pa_cons (pe_lst pa_nil) pa_nil)) (by rfl))
    (pss_cons (ps_setLc (i := 4) (own := [("_law_name", 9)]) (g := gName 9) (tt := tYes) rfl scPals.nd rfl rfl (sw_true rfl rfl rfl (by decide +kernel)) (pi_list (pv 1)) (blkOk_by (N := nPals) (sc := defScope sPals) (by decide +kernel)) (fun _ _ _ _ _ => pg_name (i := 9) scPals.nd rfl (Or.inl rfl)) (fun _ _ _ _ _ => pts_nil)
        (fun _ _ _ _ _ => pe_cal CT hr (pa_cons (pv 0) (pa_cons pe_int pa_nil))))
    (pss_cons (ps_for PassesOwn.never rfl (pi_enum (by rfl) B.enumerate (pa_cons (pv 1) pa_nil)) (pg_tup rfl (pgs_cons (pg_name (i := 5) scPals.nd rfl (.inl rfl)) (pgs_cons (pg_name (i := 6) scPals.nd rfl (.inl rfl)) pgs_nil)))
      (pss_one (ps_for PassesOwn.never rfl (pi_range1 (by rfl) B.range (pa_cons (pv 5) pa_nil)) (pg_name (i := 7) scPals.nd rfl (.inl rfl))
        (pss_cons (ps_set (i := 8) scPals.nd rfl (.inl rfl) (pe_mid (pe_ix ix_list (pe_lst (pa_cons (pe_cmpR op_eq (pe_cal CT hr (pa_cons (pv 0) (pa_cons pe_int pa_nil))) pe_int (nomark _)) (pa_cons (pe_cmpR op_eq (pe_cal CT hr (pa_cons (pv 0) (pa_cons pe_int pa_nil))) pe_int (nomark _)) (pa_cons (pe_cmpR op_gt (pe_cal CT hr (pa_cons (pv 0) (pa_cons pe_int pa_nil))) pe_int (nomark _)) pa_nil)))) (pe_op op_mod (pv 2) pe_int) (fun _ _ => rfl))))
        (pss_cons (ps_set (i := 8) scPals.nd rfl (.inl rfl) (pe_mid (pe_ifExp (pt_cmpR op_eq (pv 2) pe_int (nomark _)) (pe_cmpR op_eq (pe_ix ix_list (pv 4) (pv 5) (fun _ _ => rfl)) (pe_ix ix_list (pv 4) (pv 7) (fun _ _ => rfl)) (nomark _)) (pv 8))))
        (pss_one (ps_if (pt_val (pv 8)) (pss_one (ps_expr (pe_bm PySem.F.plainAttrs_list PySem.F.slot_list_append PySem.F.type_list_append mt_append (pv 3) (pa_cons (pe_tup (pa_cons (pe_callB (call_minS rfl) (by rfl) B.min (by decide +kernel) (pa_cons (pv 6) (pa_cons (pe_ix ix_list (pv 1) (pv 7) (fun _ _ => rfl)) pa_nil))) (pa_cons (pe_callB (call_maxS rfl) (by rfl) B.max (by decide +kernel) (pa_cons (pv 6) (pa_cons (pe_ix ix_list (pv 1) (pv 7) (fun _ _ => rfl)) pa_nil))) pa_nil))) pa_nil)))) pss_nil)))))))
    (pss_one (ps_ret (pe_callTy call_tuple_of (by rfl) B.tuple (by decide +kernel) (pa_cons (pe_callB (cr_sortedTT hr.units) (by rfl) B.sorted (by decide +kernel) (pa_cons (pv 3) pa_nil)) pa_nil)))))), ?_⟩
  have nlb : l ≠ b := hb.ne_strs hl
  -- way, found
  refine ⟨.ref b, rfl, b, 6, rfl, hb, by decide, by decide, fun way H1 o1 b1 w0 w1 => ⟨(by show 0 ≤ sizeLine; decide), fun fa hfa => ⟨_, _, rfl, ?_⟩⟩⟩
  have nfb : fa ≠ b := b1.ne_none hfa
  have nf : H fa = none := o1.free nfb hfa
  have l1 : H1 l = some (.lst (pool.map V.str)) := o1 _ _ nlb hl
  have nlf : l ≠ fa := ne_of_none l1 hfa
  have l2 : upd H1 fa (.lst []) l = some (.lst (pool.map V.str)) := (upd_ne nlf).trans l1
  have b2 : IsBox (upd H1 fa (.lst [])) b := b1.same (same_upd hfa)
  have o2 : Oth b H (upd H1 fa (.lst [])) := o1.trans (Oth.of (same_upd hfa))
  have f2 : upd H1 fa (.lst []) fa = some (.lst []) := upd_same
  dsimp only
  generalize upd H1 fa (.lst []) = H2 at *
  -- side
  refine ⟨.ref l, rfl, l, rfl, ⟨_, .inl (.inl l2)⟩, fun sa hsa => ?_⟩
  have nsb : sa ≠ b := b2.ne_none hsa
  have nsl : l ≠ sa := ne_of_none l2 hsa
  have nsf : fa ≠ sa := ne_of_none f2 hsa
  have ns : H sa = none := o2.free nsb hsa
  refine lc_it (walk_list (xs := pool.map V.str)) (fun i H' => ∃ sd : List Int, Oth b H H' ∧ IsBox H' b ∧ H' l = some (.lst (pool.map V.str)) ∧ H' fa = some (.lst []) ∧ H' sa = some (.lst (sd.map V.int)) ∧ sd.length = i) ?_ ?_ ?_ ?_
  · exact ⟨[], o2.trans (Oth.of (same_upd hsa)), b2.same (same_upd hsa), (upd_ne nsl).trans l2, (upd_ne nsf).trans f2, upd_same, rfl⟩
  · rintro i H' _ ⟨sd, _, _, e, _⟩
    exact .inl (.inl e)
  · rintro i x H4 H3 hi ⟨sd, o3, b3, l3, f3, s3, m3⟩ ⟨rfl, _⟩
    rw [List.length_map] at hi
    refine ⟨rfl, ⟨.ref b, rfl, b, 3, rfl, b3, by decide, by decide, fun v H5 o5 b5 v0 v1 => ⟨sd.map V.int, o5 _ _ nsb s3, ?_, ?_⟩⟩⟩
    · rw [List.length_map]
      exact small1000 (by omega)
    · refine ⟨sd ++ [v], fun a o na e => ?_, ?_, (upd_ne nsl).trans (o5 _ _ nlb l3), (upd_ne nsf).trans (o5 _ _ nfb f3), ?_, ?_⟩
      · rw [upd_ne (ne_of_none e ns)]
        exact o5 _ _ na (o3 _ _ na e)
      · obtain ⟨i1, i2, i3, e⟩ := b5
        exact ⟨i1, i2, i3, (upd_ne (Ne.symm nsb)).trans e⟩
      · rw [upd_same, List.map_append]
        rfl
      · rw [List.length_append, m3]
        rfl
  rintro H3 ⟨sd, o3, b3, l3, f3, s3, m3⟩
  rw [List.length_map] at m3
  -- the loops
  have hw : way = 0 ∨ way = 1 ∨ way = 2 ∨ way = 3 ∨ way = 4 ∨ way = 5 := by omega
  refine ⟨.ref l, rfl, l, _, rfl, .inl (.inl l3), ?_⟩
  refine for_it (walk_enum (xs := pool.map V.str)) (fun i σ H' => ∃ (y5 y6 y7 y8 y9 : Option V) (bs : List B3), σ = [some (.ref b), some (.ref l), some (.int way), some (.ref fa), some (.ref sa), y5, y6, y7, y8, y9] ∧ Oth b H H' ∧ IsBox H' b ∧ H' l = some (.lst (pool.map V.str)) ∧ H' fa = some (.lst (refs bs)) ∧ H' sa = some (.lst (sd.map V.int)) ∧ PairsAt H' bs ∧ OfPool pool (bs.map (·.2)) ∧ bs.length ≤ 26 * i) ?_ ?_ ?_ ?_
  · exact ⟨_, _, _, _, _, [], rfl, o3, b3, l3, f3, s3, (fun _ h => nomatch h), (fun _ h => nomatch h), Nat.zero_le _⟩
  · rintro i σ H' _ ⟨y5, y6, y7, y8, y9, bs, _, _, _, e, _⟩
    exact .inl (.inl e)
  · rintro i x σ H4 H5 hi ⟨y5, y6, y7, y8, y9, bs, rfl, o4, b4, l4, f4, s4, p4, g4, c4⟩ ⟨T, x1, x2, rfl, nT, rfl, e1, e2⟩
    rw [List.length_map] at hi
    cases e1
    obtain ⟨mine, hmine, rfl⟩ := at_map e2
    have sT : Same H4 (upd H4 T (.tup [.int (i : Nat), .str mine])) := same_upd nT
    refine ⟨T, _, rfl, .inl (.inl upd_same), rfl, _, _, rfl, _, _, rfl, rfl, ?_⟩
    refine ⟨_, rfl, i, rfl, by omega, by omega, ?_⟩
    refine for_it (walk_range (lo := 0) (n := (i : Int).toNat)) (fun j σ H' => ∃ (y7 y8 y9 : Option V) (bs : List B3), σ = [some (.ref b), some (.ref l), some (.int way), some (.ref fa), some (.ref sa), some (.int i), some (.str mine), y7, y8, y9] ∧ Oth b H H' ∧ IsBox H' b ∧ H' l = some (.lst (pool.map V.str)) ∧ H' fa = some (.lst (refs bs)) ∧ H' sa = some (.lst (sd.map V.int)) ∧ PairsAt H' bs ∧ OfPool pool (bs.map (·.2)) ∧ bs.length ≤ 26 * i + j) ?_ (fun _ _ _ _ _ => trivial) ?_ ?_
    · exact ⟨_, _, _, bs, rfl, o4.trans (Oth.of sT), b4.same sT, sT _ _ l4, sT _ _ f4, sT _ _ s4, p4.same sT, g4, by omega⟩
    · rintro j x σ H7 H6 hj ⟨y7, y8, y9, bs, rfl, o6, b6, l6, f6, s6, p6, g6, c6⟩ ⟨rfl, rfl⟩
      have hj2 : j < i := by omega
      obtain ⟨sj, hsj⟩ : ∃ v, sd[j]? = some v := ⟨sd[j]'(by omega), List.getElem?_eq_getElem _⟩
      obtain ⟨si, hsi⟩ : ∃ v, sd[i]? = some v := ⟨sd[i]'(by omega), List.getElem?_eq_getElem _⟩
      obtain ⟨pj, hpj⟩ : ∃ v, pool[j]? = some v := ⟨pool[j]'(by omega), List.getElem?_eq_getElem _⟩
      -- fine, by a draw
      refine ⟨fun v H8 => (∃ fb : Bool, v = .bl fb) ∧ Oth b H6 H8 ∧ IsBox H8 b, ?_, ?_⟩
      · refine ⟨.ref b, rfl, b, 4, rfl, b6, by decide, by decide, fun v1 h1 q1 c1 _ _ => ⟨rfl, .ref b, rfl, b, 2, rfl, c1, by decide, by decide, fun v2 h2 q2 c2 _ _ => ⟨rfl, .ref b, rfl, b, 4, rfl, c2, by decide, by decide, fun v3 h3 q3 c3 _ _ => ⟨_, _, rfl, rfl, (by show 3 ≤ sizeLine; decide), fun p hp => ?_⟩⟩⟩⟩
        have k0 : 0 ≤ way % 3 := Int.emod_nonneg _ (by decide)
        have k1 : way % 3 < 3 := Int.emod_lt_of_pos _ (by decide)
        have ox : Oth b H6 (upd h3 p (.lst [.bl (decide (V.int v1 = V.int 0)), .bl (decide (V.int v2 = V.int 0)), .bl (decide (v3 > 0))])) := ((q1.trans q2).trans q3).trans (Oth.of (same_upd hp))
        have bx : IsBox (upd h3 p (.lst [.bl (decide (V.int v1 = V.int 0)), .bl (decide (V.int v2 = V.int 0)), .bl (decide (v3 > 0))])) b := c3.same (same_upd hp)
        have km : way % 3 = ((0 : Nat) : Int) ∨ way % 3 = ((1 : Nat) : Int) ∨ way % 3 = ((2 : Nat) : Int) := by omega
        rcases km with km | km | km
        · exact ⟨_, rfl, _, _, rfl, rfl, (by show (0 : Int) < 3; decide), p, _, _, _, rfl, rfl, .inl (.inl upd_same), (by rw [km]; exact atI_nat (j := 0) rfl), ⟨_, rfl⟩, ox, bx⟩
        · exact ⟨_, rfl, _, _, rfl, rfl, (by show (0 : Int) < 3; decide), p, _, _, _, rfl, rfl, .inl (.inl upd_same), (by rw [km]; exact atI_nat (j := 1) rfl), ⟨_, rfl⟩, ox, bx⟩
        · exact ⟨_, rfl, _, _, rfl, rfl, (by show (0 : Int) < 3; decide), p, _, _, _, rfl, rfl, .inl (.inl upd_same), (by rw [km]; exact atI_nat (j := 2) rfl), ⟨_, rfl⟩, ox, bx⟩
      rintro v H8 ⟨⟨fb, rfl⟩, o8, b8⟩
      have l8 := o8 _ _ nlb l6
      have f8 := o8 _ _ nfb f6
      have s8 := o8 _ _ nsb s6
      have p8 := p6.oth o8 b6
      have o8' := o6.trans o8
      -- fine, by sides
      refine ⟨fun v H9 => (∃ fb : Bool, v = .bl fb) ∧ H9 = H8, ?_, ?_⟩
      · refine ⟨_, rfl, rfl, _, rfl, ite2 (fun _ => ?_) (fun _ => ?_)⟩
        · exact ⟨_, rfl, _, rfl, sa, _, _, _, rfl, rfl, .inl (.inl s8), atI_nat (ix_map hsi), _, rfl, _, rfl, sa, _, _, _, rfl, rfl, .inl (.inl s8), (by rw [Int.zero_add]; exact atI_nat (ix_map hsj)), rfl, ⟨_, rfl⟩, rfl⟩
        · exact ⟨_, rfl, ⟨_, rfl⟩, rfl⟩
      rintro v H9 ⟨⟨fb2, rfl⟩, rfl⟩
      refine ⟨_, rfl, fb2, rfl, ite2 (fun _ => ?_) (fun _ => ?_)⟩
      · refine ⟨.ref fa, rfl, .inl ⟨rfl, _, .inl (.inl f8)⟩, _, rfl, _, rfl, _, rfl, l, _, _, _, rfl, rfl, .inl (.inl l8), (by rw [Int.zero_add]; exact atI_nat (ix_map hpj)), _, _, rfl, _, rfl, _, rfl, _, rfl, l, _, _, _, rfl, rfl, .inl (.inl l8), (by rw [Int.zero_add]; exact atI_nat (ix_map hpj)), _, _, rfl, (by show 2 ≤ sizeLine; decide), fun t ht => ?_⟩
        have st : Same H9 (upd H9 t (.tup [.str (lmin mine pj), .str (lmax mine pj)])) := same_upd ht
        have f9 := st _ _ f8
        have ntf : t ≠ fa := (ne_of_none f8 ht).symm
        refine ⟨fa, _, _, rfl, rfl, f9, ?_, ?_⟩
        · show (bs.map _).length < _
          rw [List.length_map]
          exact small1000 (by omega)
        · refine ⟨_, _, _, bs ++ [(t, lmin mine pj, lmax mine pj)], rfl, fun a o na e => ?_, ?_, ?_, ?_, ?_, ?_, ?_, ?_⟩
          · rw [upd_ne (ne_of_none e nf)]
            exact st _ _ (o8' _ _ na e)
          · obtain ⟨i1, i2, i3, e⟩ := b8
            exact ⟨i1, i2, i3, (upd_ne (Ne.symm nfb)).trans (st _ _ e)⟩
          · exact (upd_ne nlf).trans (st _ _ l8)
          · rw [upd_same]
            show _ = some (HO.lst ((bs ++ [_]).map _))
            rw [List.map_append]
            rfl
          · exact (upd_ne (Ne.symm nsf)).trans (st _ _ s8)
          · intro c hc
            rcases List.mem_append.mp hc with z | z
            · have e := st _ _ (p8 c z)
              rw [upd_ne (ne_of e f9 (fun z => nomatch z))]
              exact e
            · have ec : c = (t, lmin mine pj, lmax mine pj) := by simpa using z
              rw [ec]
              exact (upd_ne ntf).trans upd_same
          · rw [List.map_append]
            intro p hp
            rcases List.mem_append.mp hp with z | z
            · exact g6 p z
            · have ep : p = (lmin mine pj, lmax mine pj) := by simpa using z
              refine ⟨mine, pj, List.mem_of_getElem? hmine, List.mem_of_getElem? hpj, fun z => ?_, ep⟩
              rw [← z] at hpj
              have := nd_ix hnd hmine hpj
              omega
          · rw [List.length_append]
            show bs.length + 1 ≤ _
            omega
      · exact ⟨_, _, _, bs, rfl, o8', b8, l8, f8, s8, p8, g6, by omega⟩
    · rintro σ H6 ⟨y7, y8, y9, bs, rfl, o6, b6, l6, f6, s6, p6, g6, c6⟩
      exact ⟨_, _, _, _, _, bs, rfl, o6, b6, l6, f6, s6, p6, g6, by omega⟩
  · rintro σ H4 ⟨y5, y6, y7, y8, y9, bs, rfl, o4, b4, l4, f4, s4, p4, g4, c4⟩
    rw [List.length_map] at c4
    refine ⟨_, rfl, fa, bs, rfl, .inl (.inl f4), p4, fun p hp => ?_⟩
    have s5 : Same H4 (upd H4 p (.lst ((bs.mergeSort (PySem.W.dataLe false encP)).map fun b => V.ref b.1))) := same_upd hp
    refine ⟨p, _, rfl, .inl ⟨.inl (.inl upd_same), fun a ha => ?_⟩⟩
    have s6 := s5.trans (same_upd (o := .tup ((bs.mergeSort (PySem.W.dataLe false encP)).map fun b => V.ref b.1)) ha)
    have nab : a ≠ b := (b4.same s5).ne_none ha
    have pm := List.mergeSort_perm bs (PySem.W.dataLe false encP)
    refine q a (bs.mergeSort (PySem.W.dataLe false encP)) _ (o4.trans (Oth.of s6)) (b4.same s6) (o4.free nab (s5.free ha)) upd_same (fun c hc => s6 _ _ (p4 c (pm.mem_iff.mp hc))) (fun p' hp' => g4 p' ((pm.map _).mem_iff.mp hp')) ?_ ⟨bs, rfl⟩
    rw [pm.length_eq]
    omega
/-! ### _law_are -/
abbrev sAre : Stmt := topS 37
theorem scAre : FnScope ["_law_pals_here", "_law_mine", "_law_its"] ["_law_pals_here", "_law_mine", "_law_its"] (defScope sAre) := ⟨rfl, rfl, rfl, by decide +kernel, rfl, by decide +kernel, by decide +kernel⟩
theorem ok_are {f : Addr} {fd : FuncData} (B : Blt mg) (F : Fun K "_law_are" "_law_are" sAre f fd) : FnOk P w K mg base CX0 1 f fd ["_law_pals_here", "_law_mine", "_law_its"] spAre := by
  refine fok F scAre (fun vs H Q E h => ?_) (fun cdv A outer s H vs Q E hr h => ?_)
  · obtain ⟨a, ps, x, y, rfl, _⟩ := h
    rfl
  obtain ⟨a, ps, x, y, rfl, ha, ho, gx, gy, q⟩ := h
  refine ⟨_, pss_one (ps_ret (pe_cmpR (op_inT (u65 hr)) (pe_tup (pa_cons (pe_callB (call_minS rfl) (by rfl) B.min (by decide +kernel) (pa_cons (pv 1) (pa_cons (pv 2) pa_nil))) (pa_cons (pe_callB (call_maxS rfl) (by rfl) B.max (by decide +kernel) (pa_cons (pv 1) (pa_cons (pv 2) pa_nil))) pa_nil))) (pv 0) (by rfl))), ?_⟩
  refine ⟨_, rfl, _, rfl, _, _, rfl, _, rfl, _, rfl, _, _, rfl, (by show 2 ≤ sizeLine; decide), fun t ht => ?_⟩
  have st : Same H (upd H t (.tup [.str (lmin x y), .str (lmax x y)])) := same_upd ht
  refine ⟨_, rfl, _, _, dp_tuple (xs := [lmin x y, lmax x y]) upd_same, dp_pals (ha.same st), sh_pair (p := (lmin x y, lmax x y)) ⟨lmin_good gx gy, lmax_good gx gy⟩, sh_pals ho.good, ?_⟩
  have e := any_pair ps (lmin x y, lmax x y)
  rw [frd_pair ho] at e
  have e2 : ((ps.map encQ).any fun z => PyData.eqv z (.tuple ([lmin x y, lmax x y].map .str))) = frd ps x y := e
  rw [e2]
  exact q _ st
/-! ### _law_come -/
abbrev sCome : Stmt := topS 38
abbrev nCome : List Str := ["_law_pals_here", "_law_stand", "_law_name", "_law_spot", "_law_k", "_law_its", "_law_known"]
theorem scCome : FnScope nCome ["_law_pals_here", "_law_stand", "_law_name"] (defScope sCome) := ⟨rfl, rfl, rfl, by decide +kernel, rfl, by decide +kernel, by decide +kernel⟩
theorem ok_come {f : Addr} {fd : FuncData} (B : Blt mg) (CA : Cal P w K mg base 1 "_law_are" ["_law_pals_here", "_law_mine", "_law_its"] spAre) (F : Fun K "_law_come" "_law_come" sCome f fd) : FnOk P w K mg base CX0 2 f fd ["_law_pals_here", "_law_stand", "_law_name"] spCome := by
  refine fok F scCome (fun vs H Q E h => ?_) (fun cdv A outer s H vs Q E hr h => ?_)
  · obtain ⟨a, t, ps, stand, x, rfl, _⟩ := h
    rfl
  obtain ⟨a, t, ps, stand, x, rfl, ha, ho, ht, gs, gx, hn, q⟩ := h
  refine ⟨_, pss_cons (ps_set (i := 3) scCome.nd rfl (.inl rfl) (pe_callB call_len_seq (by rfl) B.len PySem.boot_len (pa_cons (pv 1) pa_nil)))
    (pss_cons (ps_for PassesOwn.never rfl (pi_enumT (by rfl) B.enumerate (pa_cons (pv 1) pa_nil)) (pg_tup rfl (pgs_cons (pg_name (i := 4) scCome.nd rfl (.inl rfl)) (pgs_cons (pg_name (i := 5) scCome.nd rfl (.inl rfl)) pgs_nil)))
      (pss_one (ps_if (pt_val (pe_cal CA hr (pa_cons (pv 0) (pa_cons (pv 2) (pa_cons (pv 5) pa_nil))))) (pss_one (ps_set (i := 3) scCome.nd rfl (.inl rfl) (pe_op op_add (pv 4) pe_int))) pss_nil)))
    (pss_cons (ps_setLc (i := 6) (own := [("_law_its", 5)]) (g := gName 5) (tt := tB (tCall spAre [] E0 (tCons (tVar 0) (tCons (tVar 2) (tCons (tVar 5) tNil))))) rfl scCome.nd rfl rfl (sw_true rfl rfl rfl (by decide +kernel)) (pi_tup (pv 1)) (blkOk_by (N := nCome) (sc := defScope sCome) (by decide +kernel)) (fun _ _ _ _ _ => pg_name (i := 5) scCome.nd rfl (Or.inl rfl))
        (fun _ _ _ _ _ => pts_one (pt_val (pe_cal CA hr (pa_cons (pv 0) (pa_cons (pv 2) (pa_cons (pv 5) pa_nil)))))) (fun _ _ _ _ _ => pv 5))
    (pss_cons (ps_set (i := 3) scCome.nd rfl (.inl rfl) (pe_mid (pe_ifExp (pt_cmpR (op_neNil hr.units) (pv 6) (pe_lst pa_nil) (nomark _)) (pv 3) (pe_callB call_len_seq (by rfl) B.len PySem.boot_len (pa_cons (pv 1) pa_nil)))))
    (pss_one (ps_ret (pe_op op_catM (pe_op op_catM (pe_slice sl_tupM (pv 1) po_none (po_some (pv 3))) (pe_tupF (pa_cons (pv 2) pa_nil))) (pe_slice sl_tupM (pv 1) (po_some (pv 3)) po_none))))))), ?_⟩
  -- spot = len(stand)
  refine ⟨.ref t, rfl, t, _, rfl, .inr ht.sq, ?_⟩
  rw [List.length_map]
  -- the loop
  refine ⟨.ref t, rfl, t, _, rfl, ht.sq, ?_⟩
  refine for_it (walk_enumT (xs := stand.map V.str)) (fun i σ H' => ∃ (y4 y5 y6 : Option V), σ = [some (.ref a), some (.ref t), some (.str x), some (.int (match lastP (frd ps x) (stand.take i) with | some k => ((k + 1 : Nat) : Int) | none => (stand.length : Int))), y4, y5, y6] ∧ Same H H') ?_ ?_ ?_ ?_
  · exact ⟨_, _, _, rfl, Same.refl H⟩
  · rintro i σ H' _ ⟨y4, y5, y6, _, s1⟩
    exact (ht.same s1).sq
  · rintro i v σ H1 H2 hi ⟨y4, y5, y6, rfl, s1⟩ ⟨T, x1, x2, rfl, nT, rfl, e1, e2⟩
    cases e1
    obtain ⟨its, hits, rfl⟩ := at_map e2
    have s2 := s1.trans (same_upd (o := .tup [.int (i : Nat), .str its]) nT)
    refine ⟨T, _, rfl, .inl (.inl upd_same), rfl, _, _, rfl, _, _, rfl, rfl, ?_⟩
    refine ⟨_, rfl, _, rfl, _, rfl, a, ps, x, its, rfl, ha.same s2, ho, gx, gs.at_ hits, fun H3 s3 => ⟨_, rfl, ?_⟩⟩
    have lt := lastP_take (frd ps x) hits
    refine ite2 (fun c => ?_) (fun c => ?_)
    · rw [if_pos c] at lt
      refine ⟨_, rfl, _, _, rfl, rfl, some (.int (i : Nat)), some (.str its), y6, ?_, s2.trans s3⟩
      rw [lt]
      rfl
    · rw [if_neg c] at lt
      refine ⟨some (.int (i : Nat)), some (.str its), y6, ?_, s2.trans s3⟩
      rw [lt]
      rfl
  rintro σ H1 ⟨y4, y5, y6, rfl, s1⟩
  rw [List.length_map, List.take_of_length_le (Nat.le_refl _)]
  -- known
  refine ⟨.ref t, rfl, t, rfl, ⟨_, (ht.same s1).sq⟩, fun D hD => ?_⟩
  have nD : H D = none := s1.free hD
  refine lc_it (walk_tup (xs := stand.map V.str)) (fun i H' => Same H H' ∧ H' D = some (.lst (((stand.take i).filter (frd ps x)).map V.str))) ?_ ?_ ?_ ?_
  · exact ⟨s1.trans (same_upd hD), upd_same⟩
  · rintro i H' _ ⟨s2, _⟩
    exact (ht.same s2).sq
  · rintro i v H3 H2 hi ⟨s2, d2⟩ ⟨rfl, e2⟩
    obtain ⟨its, hits, rfl⟩ := at_map e2
    rw [List.length_map] at hi
    have ft : (stand.take (i + 1)).filter (frd ps x) = (stand.take i).filter (frd ps x) ++ if frd ps x its = true then [its] else [] := by
      rw [List.take_add_one, hits, List.filter_append]
      show _ ++ List.filter (frd ps x) [its] = _
      rw [List.filter_cons, List.filter_nil]
    refine ⟨rfl, _, rfl, _, rfl, _, rfl, a, ps, x, its, rfl, ha.same s2, ho, gx, gs.at_ hits, fun H4 s4 => ⟨_, rfl, ?_⟩⟩
    refine ite2 (fun c => ?_) (fun c => ?_)
    · rw [if_pos c] at ft
      refine ⟨_, rfl, _, s4 _ _ d2, ?_, fun b o e => ?_, ?_⟩
      · rw [List.length_map]
        exact small1000 (Nat.le_trans (List.length_filter_le _ _) (by rw [List.length_take]; omega))
      · rw [upd_ne (ne_of_none e nD)]
        exact s4 _ _ (s2 _ _ e)
      · rw [upd_same, ft, List.map_append]
        rfl
    · rw [if_neg c, List.append_nil] at ft
      exact ⟨s2.trans s4, by rw [ft]; exact s4 _ _ d2⟩
  rintro H2 ⟨s2, d2⟩
  rw [List.length_map, List.take_of_length_le (Nat.le_refl _)] at d2
  have t2 := ht.same s2
  -- spot
  refine ⟨fun v H' => v = .int (spotOf ps stand x : Nat) ∧ Same H H', ?_, ?_⟩
  · refine ⟨_, rfl, (by show 0 ≤ sizeLine; decide), fun p hp => ⟨D, p, _, rfl, rfl, same_upd hp _ _ d2, upd_same, gs.filter, _, rfl, ?_⟩⟩
    have s3 := s2.trans (same_upd (o := .lst []) hp)
    unfold spotOf
    refine ite2 (fun c => ?_) (fun c => ?_)
    · refine ⟨_, rfl, ?_, s3⟩
      cases e : lastP (frd ps x) stand with
      | none =>
        exact absurd (lastP_nil.mp e) (of_decide_eq_false (by simpa using c))
      | some k => rfl
    · refine ⟨.ref t, rfl, t, _, rfl, .inr (t2.same (same_upd hp)).sq, ?_, s3⟩
      rw [List.length_map]
      cases e : lastP (frd ps x) stand with
      | none => rfl
      | some k =>
        have z : ¬ stand.filter (frd ps x) = [] := fun z => by rw [lastP_nil.mpr z] at e; cases e
        rw [decide_eq_false z] at c
        first | exact absurd rfl c | exact c.elim rfl | skip
  rintro v H3 ⟨rfl, s3⟩
  have t3 := ht.same s3
  refine ⟨.ref t, rfl, _, rfl, _, rfl, t, _, rfl, t3, fun t1 H4 s4 e4 => ?_⟩
  rw [cutV_map, cutL_to] at e4
  refine ⟨_, rfl, (by show 1 ≤ sizeLine; decide), fun p Hp sp hp tp => ?_⟩
  refine ⟨t1, p, _, _, rfl, rfl, e4.same sp, tp, ?_, fun t5 H5 s5 e5 => ?_⟩
  · rw [List.length_map, List.length_take]
    exact small_le (by show _ + 1 ≤ 1000; omega)
  have s35 := (s4.trans sp).trans s5
  refine ⟨.ref t, rfl, _, rfl, _, rfl, t, _, rfl, t3.same s35, fun t6 H6 s6 e6 => ?_⟩
  rw [cutV_map, cutL_from] at e6
  refine ⟨t5, t6, _, _, rfl, rfl, e5.same s6, e6, ?_, fun t7 H7 s7 e7 => ?_⟩
  · rw [List.length_append, List.length_map, List.length_map, List.length_take, List.length_drop]
    exact small_le (by show _ + 1 + _ ≤ 1000; omega)
  refine q t7 H7 ((s3.trans s35).trans (s6.trans s7)) ?_
  unfold comeTo
  rw [List.map_append, List.map_append]
  exact e7
/-! ### _law_stand_of, _law_strewn, _law_thinned, _law_fine_stand, _law_any_stand -/
abbrev sStandOf : Stmt := topS 39
abbrev nStandOf : List Str := ["_law_pals_here", "_law_some", "_law_stand", "_law_name"]
theorem scStandOf : FnScope nStandOf ["_law_pals_here", "_law_some"] (defScope sStandOf) := ⟨rfl, rfl, rfl, by decide +kernel, rfl, by decide +kernel, by decide +kernel⟩
theorem ok_standOf {f : Addr} {fd : FuncData} (CC : Cal P w K mg base 2 "_law_come" ["_law_pals_here", "_law_stand", "_law_name"] spCome) (F : Fun K "_law_stand_of" "_law_stand_of" sStandOf f fd) : FnOk P w K mg base CX0 3 f fd ["_law_pals_here", "_law_some"] spStandOf := by
  refine fok F scStandOf (fun vs H Q E h => ?_) (fun cdv A outer s H vs Q E hr h => ?_)
  · obtain ⟨a, l, ps, so, rfl, _⟩ := h
    rfl
  obtain ⟨a, l, ps, so, rfl, ha, ho, hl, gs, hn, q⟩ := h
  refine ⟨_, pss_cons (ps_set (i := 2) scStandOf.nd rfl (.inl rfl) (pe_tupF pa_nil))
    (pss_cons (ps_for PassesOwn.never rfl (pi_list (pv 1)) (pg_name (i := 3) scStandOf.nd rfl (.inl rfl))
      (pss_one (ps_set (i := 2) scStandOf.nd rfl (.inl rfl) (pe_cal CC hr (pa_cons (pv 0) (pa_cons (pv 2) (pa_cons (pv 3) pa_nil)))))))
    (pss_one (ps_ret (pv 2)))), ?_⟩
  refine ⟨(by show 0 ≤ sizeLine; decide), fun p Hp sp hp tp => ?_⟩
  refine ⟨.ref l, rfl, l, rfl, ⟨_, .inl (.inl (sp _ _ hl))⟩, ?_⟩
  refine for_it (walk_list (xs := so.map V.str)) (fun i σ H' => ∃ (t : Addr) (y3 : Option V), σ = [some (.ref a), some (.ref l), some (.ref t), y3] ∧ Same H H' ∧ TupAt H' t ((standOf ps (so.take i)).map V.str)) ?_ ?_ ?_ ?_
  · exact ⟨p, _, rfl, sp, tp⟩
  · rintro i σ H' _ ⟨t, y3, _, s1, _⟩
    exact .inl (.inl (s1 _ _ hl))
  · rintro i v σ H2 H1 hi ⟨t, y3, rfl, s1, e1⟩ ⟨rfl, e2⟩
    rw [List.length_map] at hi
    obtain ⟨x, hx, rfl⟩ := at_map e2
    have pm := stand_perm ps (so.take i)
    have gst : Goods (standOf ps (so.take i)) := Goods.perm (fun y hy => gs y (List.mem_of_mem_take hy)) pm
    refine ⟨_, rfl, _, rfl, _, rfl, a, t, ps, _, x, rfl, ha.same s1, ho, e1, gst, gs.at_ hx, ?_, fun t' H3 s3 e3 => ?_⟩
    · rw [pm.length_eq, List.length_take]
      omega
    · refine ⟨t', _, rfl, s1.trans s3, ?_⟩
      rw [List.take_add_one, hx]
      show TupAt H3 t' ((standOf ps (so.take i ++ [x])).map V.str)
      rw [standOf_app]
      exact e3
  · rintro σ H1 ⟨t, y3, rfl, s1, e1⟩
    rw [List.length_map, List.take_of_length_le (Nat.le_refl _)] at e1
    exact ⟨.ref t, rfl, q t H1 s1 e1⟩
abbrev sStrewn : Stmt := topS 40
abbrev nStrewn : List Str := ["_law_box_here", "_law_some", "_law_found", "_law_name"]
theorem scStrewn : FnScope nStrewn ["_law_box_here", "_law_some"] (defScope sStrewn) := ⟨rfl, rfl, rfl, by decide +kernel, rfl, by decide +kernel, by decide +kernel⟩
theorem ok_strewn {f : Addr} {fd : FuncData} (B : Blt mg) (CT : Cal P w K mg base 1 "_law_take" ["_law_box_here", "_law_many"] spTake) (F : Fun K "_law_strewn" "_law_strewn" sStrewn f fd) : FnOk P w K mg base CX0 2 f fd ["_law_box_here", "_law_some"] spStrewn := by
  refine fok F scStrewn (fun vs H Q E h => ?_) (fun cdv A outer s H vs Q E hr h => ?_)
  · obtain ⟨b, l, pool, rfl, _⟩ := h
    rfl
  obtain ⟨b, l, pool, rfl, hb, hl, hn, q⟩ := h
  have nlb : l ≠ b := hl.elim (fun e => e.ne hb) (fun e => hb.ne_strs e)
  refine ⟨_, pss_cons (ps_set (i := 2) scStrewn.nd rfl (.inl rfl) (pe_lst pa_nil))
    (pss_cons (ps_for PassesOwn.never rfl (pi_or2 (pi_list (pv 1)) (pi_tup (pv 1))) (pg_name (i := 3) scStrewn.nd rfl (.inl rfl))
      (pss_one (ps_expr (pe_bm PySem.F.plainAttrs_list PySem.F.slot_list_insert PySem.F.type_list_insert mt_insert (pv 2) (pa_cons (pe_cal CT hr (pa_cons (pv 0) (pa_cons (pe_op op_add (pe_callB call_len_seq (by rfl) B.len PySem.boot_len (pa_cons (pv 2) pa_nil)) pe_int) pa_nil))) (pa_cons (pv 3) pa_nil))))))
    (pss_one (ps_ret (pv 2)))), ?_⟩
  refine ⟨(by show 0 ≤ sizeLine; decide), fun fa hfa => ?_⟩
  have s0 : Same H (upd H fa (.lst [])) := same_upd hfa
  have nfb : fa ≠ b := hb.ne_none hfa
  have nlf : l ≠ fa := hl.elim (fun e => e.ne_new hfa) (fun e => ne_of_none e hfa)
  have turn : ∀ (i : Nat) (x : Str) (σ : L2.St) (H1 : Hp), pool[i]? = some x → (∃ (order : List Str) (y3 : Option V), σ = [some (.ref b), some (.ref l), some (.ref fa), y3] ∧ Oth b H H1 ∧ IsBox H1 b ∧ RowAt H1 l pool ∧ H1 fa = some (.lst (order.map V.str)) ∧ order.Perm (pool.take i)) → ∀ (D : Ends), D.nx = (fun σ H1 => ∃ (order : List Str) (y3 : Option V), σ = [some (.ref b), some (.ref l), some (.ref fa), y3] ∧ Oth b H H1 ∧ IsBox H1 b ∧ RowAt H1 l pool ∧ H1 fa = some (.lst (order.map V.str)) ∧ order.Perm (pool.take (i + 1))) →
      (tDrop (tBM K "list" (fun x vs H Q => ∃ l xs i y, x = .ref l ∧ vs = [.int i, y] ∧ H l = some (.lst xs) ∧ xs.length < sizeLine ∧ 0 ≤ i ∧ i < 2 ^ 63 ∧ Q .non (upd H l (.lst (xs.take i.toNat ++ [y] ++ xs.drop i.toNat)))) (tVar 2) (tCons (tCall spTake [] E0 (tCons (tVar 0) (tCons (tOp (rI0 fun i j => .int (i + j)) (tCB (fun xs H Q => ∃ p ys, xs = [.ref p] ∧ (SqL K H p ys ∨ SqT K H p ys) ∧ Q (.int ys.length) H) (tCons (tVar 2) tNil)) (tC (.int 1))) tNil))) (tCons (tVar 3) tNil)))) D (σ.set 3 (some (.str x))) H1 := by
    rintro i x σ H1 hx ⟨order, y3, rfl, o1, b1, l1, f1, p1⟩ D hD
    have hi : i < pool.length := (List.getElem?_eq_some_iff.mp hx).1
    have ol : order.length = i := by
      rw [p1.length_eq, List.length_take]
      omega
    have L1 : SqL K H1 fa (order.map V.str) := .inl (.inl f1)
    refine ⟨.ref fa, rfl, .inl ⟨rfl, _, L1⟩, .ref b, rfl, .ref fa, rfl, fa, _, rfl, .inl L1, _, _, rfl, rfl, b, _, rfl, b1, by omega, ?_, fun v H2 o2 b2 v0 v1 => ?_⟩
    · rw [List.length_map]
      omega
    have f2 : H2 fa = some (.lst (order.map V.str)) := o2 _ _ nfb f1
    refine ⟨_, rfl, fa, _, v, _, rfl, rfl, f2, ?_, v0, ?_, ?_⟩
    · rw [List.length_map]
      exact small1000 (by omega)
    · rw [List.length_map] at v1
      omega
    rw [hD]
    have pm := ins_perm order v.toNat x
    refine ⟨order.take v.toNat ++ [x] ++ order.drop v.toNat, _, rfl, fun a o na e => ?_, ?_, ?_, ?_, ?_⟩
    · rw [upd_ne (ne_of_none e hfa)]
      exact o2 _ _ na (o1 _ _ na e)
    · obtain ⟨i1, i2, i3, e⟩ := b2
      exact ⟨i1, i2, i3, (upd_ne (Ne.symm nfb)).trans e⟩
    · exact l1.elim (fun e => .inl ((e.oth o2 b1).upd_ f2)) (fun e => .inr ((upd_ne nlf).trans (o2 _ _ nlb e)))
    · rw [upd_same, ins_map]
    · refine pm.trans ((p1.cons x).trans ?_)
      rw [List.take_add_one, hx]
      exact (List.perm_append_singleton x (pool.take i)).symm
  have fin : ∀ (σ : L2.St) (H1 : Hp), (∃ (order : List Str) (y3 : Option V), σ = [some (.ref b), some (.ref l), some (.ref fa), y3] ∧ Oth b H H1 ∧ IsBox H1 b ∧ RowAt H1 l pool ∧ H1 fa = some (.lst (order.map V.str)) ∧ order.Perm (pool.take (pool.map V.str).length)) → ∃ v, σ[2]? = some (some v) ∧ Q v H1 := by
    rintro σ H1 ⟨order, y3, rfl, o1, b1, l1, f1, p1⟩
    rw [List.length_map, List.take_of_length_le (Nat.le_refl _)] at p1
    exact ⟨.ref fa, rfl, q fa order H1 o1 b1 hfa f1 p1⟩
  rcases hl with e | e
  · refine .inr ⟨.ref l, rfl, l, rfl, ⟨_, (e.same s0).sq⟩, ?_⟩
    refine for_it (walk_tup (xs := pool.map V.str)) (fun i σ H1 => ∃ (order : List Str) (y3 : Option V), σ = [some (.ref b), some (.ref l), some (.ref fa), y3] ∧ Oth b H H1 ∧ IsBox H1 b ∧ RowAt H1 l pool ∧ H1 fa = some (.lst (order.map V.str)) ∧ order.Perm (pool.take i)) ?_ ?_ ?_ ?_
    · exact ⟨[], _, rfl, Oth.of s0, hb.same s0, .inl (e.same s0), upd_same, List.Perm.refl _⟩
    · rintro i σ H1 _ ⟨order, y3, _, o1, _⟩
      exact (e.oth o1 hb).sq
    · rintro i v σ H2 H1 hi pv ⟨rfl, e2⟩
      obtain ⟨x, hx, rfl⟩ := at_map e2
      exact turn i x σ _ hx pv _ rfl
    · exact fin
  · refine .inl ⟨.ref l, rfl, l, rfl, ⟨_, .inl (.inl (s0 _ _ e))⟩, ?_⟩
    refine for_it (walk_list (xs := pool.map V.str)) (fun i σ H1 => ∃ (order : List Str) (y3 : Option V), σ = [some (.ref b), some (.ref l), some (.ref fa), y3] ∧ Oth b H H1 ∧ IsBox H1 b ∧ RowAt H1 l pool ∧ H1 fa = some (.lst (order.map V.str)) ∧ order.Perm (pool.take i)) ?_ ?_ ?_ ?_
    · exact ⟨[], _, rfl, Oth.of s0, hb.same s0, .inr (s0 _ _ e), upd_same, List.Perm.refl _⟩
    · rintro i σ H1 _ ⟨order, y3, _, o1, _⟩
      exact .inl (.inl (o1 _ _ nlb e))
    · rintro i v σ H2 H1 hi pv ⟨rfl, e2⟩
      obtain ⟨x, hx, rfl⟩ := at_map e2
      exact turn i x σ _ hx pv _ rfl
    · exact fin
abbrev sThinned : Stmt := topS 44
abbrev nThinned : List Str := ["_law_some", "_law_name", "_law_its"]
theorem scThinned : FnScope nThinned ["_law_some", "_law_name"] (defScope sThinned) := ⟨rfl, rfl, rfl, by decide +kernel, rfl, by decide +kernel, by decide +kernel⟩
theorem ok_thinned {f : Addr} {fd : FuncData} (B : Blt mg) (F : Fun K "_law_thinned" "_law_thinned" sThinned f fd) : FnOk P w K mg base CX0 1 f fd ["_law_some", "_law_name"] spThinned := by
  refine fok F scThinned (fun vs H Q E h => ?_) (fun cdv A outer s H vs Q E hr h => ?_)
  · obtain ⟨t, stand, x, rfl, _⟩ := h
    rfl
  obtain ⟨t, stand, x, rfl, ht, hn, q⟩ := h
  refine ⟨_, pss_one (ps_ret (pe_callTy call_tupleF (by rfl) B.tuple (by decide +kernel) (pa_cons (pe_lc (own := [("_law_its", 2)]) (g := gName 2) (tt := tTest (tOp rNe (tVar 2) (tVar 1))) rfl scThinned.nd (pi_tup (pv 0)) (blkOk_by (N := nThinned) (sc := defScope sThinned) (by decide +kernel)) (fun _ _ _ _ _ => pg_name (i := 2) scThinned.nd rfl (Or.inl rfl))
        (fun _ _ _ _ _ => pts_one (pt_cmpR op_ne (pv 2) (pv 1) (nomark _))) (fun _ _ _ _ _ => pv 2)) pa_nil))), ?_⟩
  refine ⟨.ref t, rfl, t, rfl, ⟨_, ht.sq⟩, fun D hD => ?_⟩
  refine lc_it (walk_tup (xs := stand.map V.str)) (fun i H' => Same H H' ∧ H' D = some (.lst (((stand.take i).filter fun y => !decide (y = x)).map V.str))) ?_ ?_ ?_ ?_
  · exact ⟨same_upd hD, upd_same⟩
  · rintro i H' _ ⟨s2, _⟩
    exact (ht.same s2).sq
  · rintro i v H3 H2 hi ⟨s2, d2⟩ ⟨rfl, e2⟩
    obtain ⟨its, hits, rfl⟩ := at_map e2
    rw [List.length_map] at hi
    have ft : ((stand.take (i + 1)).filter fun y => !decide (y = x)) = ((stand.take i).filter fun y => !decide (y = x)) ++ if (!decide (its = x)) = true then [its] else [] := by
      rw [List.take_add_one, hits, List.filter_append]
      show _ ++ List.filter (fun y => !decide (y = x)) [its] = _
      rw [List.filter_cons, List.filter_nil]
    have ed : decide (V.str its = V.str x) = decide (its = x) := decide_eq_decide.mpr ⟨fun z => V.str.inj z, fun z => by rw [z]⟩
    refine ⟨rfl, _, rfl, _, rfl, rfl, _, rfl, ?_⟩
    rw [ed]
    refine ite2 (fun c => ?_) (fun c => ?_)
    · rw [if_pos c] at ft
      refine ⟨_, rfl, _, d2, ?_, fun b o e => ?_, ?_⟩
      · rw [List.length_map]
        exact small1000 (Nat.le_trans (List.length_filter_le _ _) (by rw [List.length_take]; omega))
      · rw [upd_ne (ne_of_none e hD)]
        exact s2 _ _ e
      · rw [upd_same, ft, List.map_append]
        rfl
    · rw [if_neg c, List.append_nil] at ft
      exact ⟨s2, by rw [ft]; exact d2⟩
  · rintro H2 ⟨s2, d2⟩
    rw [List.length_map, List.take_of_length_le (Nat.le_refl _)] at d2
    exact ⟨D, _, rfl, .inl ⟨.inl (.inl d2), fun a Ha sa ha ta => q a Ha (s2.trans sa) ta⟩⟩
abbrev sFine : Stmt := topS 45
abbrev nFine : List Str := ["_law_box_here", "_law_pals_here", "_law_pool"]
theorem scFine : FnScope nFine nFine (defScope sFine) := ⟨rfl, rfl, rfl, by decide +kernel, rfl, by decide +kernel, by decide +kernel⟩
theorem ok_fine {f : Addr} {fd : FuncData} (CS : Cal P w K mg base 3 "_law_stand_of" ["_law_pals_here", "_law_some"] spStandOf) (CW : Cal P w K mg base 2 "_law_strewn" ["_law_box_here", "_law_some"] spStrewn) (F : Fun K "_law_fine_stand" "_law_fine_stand" sFine f fd) : FnOk P w K mg base CX0 4 f fd nFine spFine := by
  refine fok F scFine (fun vs H Q E h => ?_) (fun cdv A outer s H vs Q E hr h => ?_)
  · obtain ⟨b, a, l, ps, pool, rfl, _⟩ := h
    rfl
  obtain ⟨b, a, l, ps, pool, rfl, hb, ha, ho, hl, gs, hn, q⟩ := h
  refine ⟨_, pss_one (ps_ret (pe_cal CS hr (pa_cons (pv 1) (pa_cons (pe_cal CW hr (pa_cons (pv 0) (pa_cons (pv 2) pa_nil))) pa_nil)))), ?_⟩
  refine ⟨_, rfl, _, rfl, _, rfl, b, l, pool, rfl, hb, .inr hl, hn, fun p order H1 o1 b1 np e1 pm => ?_⟩
  refine ⟨a, p, ps, order, rfl, ha.oth o1 hb, ho, e1, gs.perm pm, (by rw [pm.length_eq]; exact hn), fun t H2 s2 e2 => ?_⟩
  exact q t order H2 (o1.trans (Oth.of s2)) (b1.same s2) e2 pm
abbrev sAny : Stmt := topS 46
abbrev nAny : List Str := ["_law_box_here", "_law_pals_here", "_law_pool", "_law_stand", "_law_way", "_law_name", "_law_left", "_law_spot"]
theorem scAny : FnScope nAny nFine (defScope sAny) := ⟨rfl, rfl, rfl, by decide +kernel, rfl, by decide +kernel, by decide +kernel⟩
theorem ok_any {f : Addr} {fd : FuncData} (B : Blt mg) (CT : Cal P w K mg base 1 "_law_take" ["_law_box_here", "_law_many"] spTake) (CF : Cal P w K mg base 4 "_law_fine_stand" nFine spFine) (CW : Cal P w K mg base 2 "_law_strewn" ["_law_box_here", "_law_some"] spStrewn) (CH : Cal P w K mg base 1 "_law_thinned" ["_law_some", "_law_name"] spThinned) (F : Fun K "_law_any_stand" "_law_any_stand" sAny f fd) : FnOk P w K mg base CX0 5 f fd nFine spAny := by
  refine fok F scAny (fun vs H Q E h => ?_) (fun cdv A outer s H vs Q E hr h => ?_)
  · obtain ⟨b, a, l, ps, pool, rfl, _⟩ := h
    rfl
  obtain ⟨b, a, l, ps, pool, rfl, hb, ha, ho, hl, gs, hd, hn, q⟩ := h
  have h1 : Room 1 _ := hr.mono (by decide)
  have h2 : Room 2 _ := hr.mono (by decide)
  refine ⟨_, pss_cons (ps_par (i := 3) (j := 4) (by rfl) scAny.nd rfl rfl (by decide) rfl rfl (pa_cons (pe_cal CF hr (pa_cons (pv 0) (pa_cons (pv 1) (pa_cons (pv 2) pa_nil)))) (pa_cons (pe_cal CT h1 (pa_cons (pv 0) (pa_cons pe_int pa_nil))) pa_nil)) (by rfl))
    (pss_cons (ps_if (pt_cmpR op_eq (pv 4) pe_int (nomark _)) (pss_one (ps_ret (pe_callTy call_tupleF (by rfl) B.tuple (by decide +kernel) (pa_cons (pe_cal CW h2 (pa_cons (pv 0) (pa_cons (pv 2) pa_nil))) pa_nil)))) pss_nil)
    (pss_cons (ps_if (PW.pt (pw_and (pt_cmpR op_lt (pv 4) pe_int (nomark _)) (pw_and1 (pt_cmpR op_gt (pe_callB call_len_seq (by rfl) B.len PySem.boot_len (pa_cons (pv 3) pa_nil)) pe_int (nomark _)))))
      (pss_cons (ps_set (i := 5) scAny.nd rfl (.inl rfl) (pe_ix ix_tup (pv 3) (pe_cal CT h1 (pa_cons (pv 0) (pa_cons (pe_callB call_len_seq (by rfl) B.len PySem.boot_len (pa_cons (pv 3) pa_nil)) pa_nil))) (fun _ _ => rfl)))
      (pss_cons (ps_set (i := 6) scAny.nd rfl (.inl rfl) (pe_cal CH h1 (pa_cons (pv 3) (pa_cons (pv 5) pa_nil))))
      (pss_cons (ps_set (i := 7) scAny.nd rfl (.inl rfl) (pe_cal CT h1 (pa_cons (pv 0) (pa_cons (pe_op op_add (pe_callB call_len_seq (by rfl) B.len PySem.boot_len (pa_cons (pv 6) pa_nil)) pe_int) pa_nil))))
      (pss_one (ps_ret (pe_op op_catM (pe_op op_catM (pe_slice sl_tupM (pv 6) po_none (po_some (pv 7))) (pe_tupF (pa_cons (pv 5) pa_nil))) (pe_slice sl_tupM (pv 6) (po_some (pv 7)) po_none))))))) pss_nil)
    (pss_one (ps_ret (pv 3))))), ?_⟩
  refine ⟨_, rfl, _, rfl, _, rfl, b, a, l, ps, pool, rfl, hb, ha, ho, hl, gs, hn, fun t order H1 o1 b1 e1 pm => ?_⟩
  refine ⟨_, rfl, b, 4, rfl, b1, by decide, by decide, fun way H2 o2 b2 w0 w1 => ⟨_, _, rfl, ?_⟩⟩
  have pst : (standOf ps order).Perm pool := (stand_perm ps order).trans pm
  generalize standOf ps order = stand at pst e1
  have e2 := e1.oth o2 b1
  have o12 := o1.trans o2
  have l2 : H2 l = some (.lst (pool.map V.str)) := o12 _ _ (hb.ne_strs hl) hl
  have sl : stand.length = pool.length := pst.length_eq
  have T2 : SqT K H2 t (stand.map V.str) := e2.sq
  refine ⟨_, rfl, rfl, _, rfl, ite2 (fun _ => ?_) (fun _ => ?_)⟩
  · refine ⟨_, rfl, _, rfl, b, l, pool, rfl, b2, .inr l2, hn, fun p ord H3 o3 b3 np e3 pm3 => ?_⟩
    exact ⟨p, _, rfl, .inl ⟨.inl (.inl e3), fun c Hc sc hc tc => q c ord Hc ((o12.trans o3).trans (Oth.of sc)) (b3.same sc) tc pm3⟩⟩
  · refine ⟨_, rfl, _, _, rfl, rfl, _, rfl, ite2 (fun _ => ?_) (fun _ => ?_)⟩
    · refine ⟨.ref t, rfl, t, _, rfl, .inr T2, _, _, rfl, rfl, _, rfl, ite2 (fun c => ?_) (fun _ => ?_)⟩
      · have c' : 0 < stand.length := by
          have z := of_decide_eq_true c
          rw [List.length_map] at z
          omega
        refine ⟨.ref t, rfl, .ref b, rfl, .ref t, rfl, t, _, rfl, .inr T2, b, _, rfl, b2, (by rw [List.length_map]; omega), (by rw [List.length_map]; omega), fun v H3 o3 b3 v0 v1 => ?_⟩
        rw [List.length_map] at v1
        have e3 := e2.oth o3 b2
        obtain ⟨x, hx⟩ : ∃ x, stand[v.toNat]? = some x := ⟨stand[v.toNat]'(by omega), List.getElem?_eq_getElem _⟩
        have ev : v = ((v.toNat : Nat) : Int) := by omega
        refine ⟨t, _, v, .str x, rfl, rfl, e3.sq, (by rw [ev]; exact atI_nat (ix_map hx)), ?_⟩
        refine ⟨.ref t, rfl, _, rfl, t, stand, x, rfl, e3, by omega, fun t4 H4 s4 e4 => ?_⟩
        have hxm : x ∈ stand := List.mem_of_getElem? hx
        have nds : stand.Nodup := pst.nodup_iff.mpr hd
        have plf : (x :: stand.filter fun y => !decide (y = x)).Perm stand := by
          have z1 : (stand.filter fun y => !decide (y = x)) = stand.erase x := by
            rw [nds.erase_eq_filter]
            refine List.filter_congr fun y _ => ?_
            by_cases z : y = x
            · subst z; simp
            · simp [z]
          rw [z1]
          exact (List.perm_cons_erase hxm).symm
        generalize (stand.filter fun y => !decide (y = x)) = left at plf e4
        have ll : left.length + 1 = stand.length := plf.length_eq
        have T4 : SqT K H4 t4 (left.map V.str) := e4.sq
        refine ⟨.ref b, rfl, .ref t4, rfl, t4, _, rfl, .inr T4, _, _, rfl, rfl, b, _, rfl, b3.same s4, (by omega), (by rw [List.length_map]; omega), fun u H5 o5 b5 u0 u1 => ?_⟩
        rw [List.length_map] at u1
        have e5 := e4.oth o5 (b3.same s4)
        have eu : u = ((u.toNat : Nat) : Int) := by omega
        refine ⟨.ref t4, rfl, _, rfl, _, rfl, t4, _, rfl, e5, fun t6 H6 s6 e6 => ?_⟩
        rw [cutV_map, eu, cutL_to] at e6
        refine ⟨_, rfl, (by show 1 ≤ sizeLine; decide), fun p Hp sp hp tp => ?_⟩
        refine ⟨t6, p, _, _, rfl, rfl, e6.same sp, tp, ?_, fun t7 H7 s7 e7 => ?_⟩
        · rw [List.length_map, List.length_take]
          exact small_le (by show _ + 1 ≤ 1000; omega)
        have s57 := (s6.trans sp).trans s7
        refine ⟨.ref t4, rfl, _, rfl, _, rfl, t4, _, rfl, e5.same s57, fun t8 H8 s8 e8 => ?_⟩
        rw [cutV_map, eu, cutL_from] at e8
        refine ⟨t7, t8, _, _, rfl, rfl, e7.same s8, e8, ?_, fun t9 H9 s9 e9 => ?_⟩
        · rw [List.length_append, List.length_map, List.length_map, List.length_take, List.length_drop]
          exact small_le (by show _ + 1 + _ ≤ 1000; omega)
        have s59 := (s57.trans s8).trans s9
        refine q t9 (left.take u.toNat ++ [x] ++ left.drop u.toNat) H9 ((((o12.trans o3).trans (Oth.of s4)).trans o5).trans (Oth.of s59)) (b5.same s59) ?_ ((ins_perm left u.toNat x).trans (plf.trans pst))
        rw [List.map_append, List.map_append]
        exact e9
      · exact ⟨.ref t, rfl, q t stand H2 o12 b2 e2 pst⟩
    · exact ⟨.ref t, rfl, q t stand H2 o12 b2 e2 pst⟩
/-! ### _law_host -/
abbrev sHost : Stmt := topS 41
abbrev nHost : List Str := ["_law_pals_here", "_law_stand", "_law_name", "_law_known", "_law_its"]
theorem scHost : FnScope nHost ["_law_pals_here", "_law_stand", "_law_name"] (defScope sHost) := ⟨rfl, rfl, rfl, by decide +kernel, rfl, by decide +kernel, by decide +kernel⟩
theorem ok_host {f : Addr} {fd : FuncData} (CA : Cal P w K mg base 1 "_law_are" ["_law_pals_here", "_law_mine", "_law_its"] spAre) (F : Fun K "_law_host" "_law_host" sHost f fd) : FnOk P w K mg base CX0 2 f fd ["_law_pals_here", "_law_stand", "_law_name"] spHost := by
  refine fok F scHost (fun vs H Q E h => ?_) (fun cdv A outer s H vs Q E hr h => ?_)
  · obtain ⟨a, t, ps, stand, x, i, rfl, _⟩ := h
    rfl
  obtain ⟨a, t, ps, stand, x, i, rfl, ha, ho, ht, gs, nd, hn, hi, q⟩ := h
  refine ⟨_, pss_cons (ps_setLc (i := 3) (own := [("_law_its", 4)]) (g := gName 4) (tt := tB (tCall spAre [] E0 (tCons (tVar 0) (tCons (tVar 2) (tCons (tVar 4) tNil))))) rfl scHost.nd rfl rfl (sw_true rfl rfl rfl (by decide +kernel)) (pi_tup (pe_slice sl_tupM (pv 1) po_none (po_some (pe_bmT PySem.F.slot_tuple_index PySem.F.type_tuple_index mt_tup_index (pv 1) (pa_cons (pv 2) pa_nil))))) (blkOk_by (N := nHost) (sc := defScope sHost) (by decide +kernel)) (fun _ _ _ _ _ => pg_name (i := 4) scHost.nd rfl (Or.inl rfl))
        (fun _ _ _ _ _ => pts_one (pt_val (pe_cal CA hr (pa_cons (pv 0) (pa_cons (pv 2) (pa_cons (pv 4) pa_nil)))))) (fun _ _ _ _ _ => pv 4))
    (pss_one (ps_ret (pe_ifExp (pt_cmpR (op_neNil hr.units) (pv 3) (pe_lst pa_nil) (nomark _)) (pe_ix ix_list (pv 3) (pe_un un_neg pe_int) (fun _ _ => rfl)) pe_non))), ?_⟩
  have gx : Good x := gs.at_ hi
  refine ⟨.ref t, rfl, .ref t, rfl, ⟨t, _, rfl, ht⟩, _, rfl, t, stand, x, i, rfl, rfl, ht.sq, hi, nd_first nd hi, _, rfl, t, _, rfl, ht, fun t1 H1 s1 e1 => ?_⟩
  rw [cutV_map, cutL_to] at e1
  have gst : Goods (stand.take i) := fun y hy => gs y (List.mem_of_mem_take hy)
  refine ⟨t1, rfl, ⟨_, e1.sq⟩, fun D hD => ?_⟩
  have nD : H D = none := s1.free hD
  refine lc_it (walk_tup (xs := (stand.take i).map V.str)) (fun k H' => Same H1 H' ∧ H' D = some (.lst ((((stand.take i).take k).filter (frd ps x)).map V.str))) ?_ ?_ ?_ ?_
  · exact ⟨same_upd hD, upd_same⟩
  · rintro k H' _ ⟨s2, _⟩
    exact (e1.same s2).sq
  · rintro k v H3 H2 hk ⟨s2, d2⟩ ⟨rfl, e2⟩
    obtain ⟨its, hits, rfl⟩ := at_map e2
    rw [List.length_map, List.length_take] at hk
    have ft : ((stand.take i).take (k + 1)).filter (frd ps x) = ((stand.take i).take k).filter (frd ps x) ++ if frd ps x its = true then [its] else [] := by
      rw [List.take_add_one, hits, List.filter_append]
      show _ ++ List.filter (frd ps x) [its] = _
      rw [List.filter_cons, List.filter_nil]
    refine ⟨rfl, _, rfl, _, rfl, _, rfl, a, ps, x, its, rfl, ha.same (s1.trans s2), ho, gx, gst.at_ hits, fun H4 s4 => ⟨_, rfl, ?_⟩⟩
    refine ite2 (fun c => ?_) (fun c => ?_)
    · rw [if_pos c] at ft
      refine ⟨_, rfl, _, s4 _ _ d2, ?_, fun b o e => ?_, ?_⟩
      · rw [List.length_map]
        exact small1000 (Nat.le_trans (List.length_filter_le _ _) (by rw [List.length_take, List.length_take]; omega))
      · rw [upd_ne (ne_of_none e hD)]
        exact s4 _ _ (s2 _ _ e)
      · rw [upd_same, ft, List.map_append]
        rfl
    · rw [if_neg c, List.append_nil] at ft
      exact ⟨s2.trans s4, by rw [ft]; exact s4 _ _ d2⟩
  rintro H2 ⟨s2, d2⟩
  rw [List.length_map, List.take_of_length_le (Nat.le_refl _)] at d2
  have fl := filter_last (frd ps x) (stand.take i)
  refine ⟨_, rfl, (by show 0 ≤ sizeLine; decide), fun p hp => ⟨D, p, _, rfl, rfl, same_upd hp _ _ d2, upd_same, gst.filter, _, rfl, ?_⟩⟩
  have s3 := (s1.trans s2).trans (same_upd (o := .lst []) hp)
  have d3 := same_upd (o := .lst []) hp _ _ d2
  cases e : lastP (frd ps x) (stand.take i) with
  | none =>
    rw [e] at q
    rw [lastP_nil.mp e]
    exact q _ s3
  | some k =>
    rw [e] at q fl
    have hk := lastP_lt e
    obtain ⟨y, hy⟩ : ∃ y, (stand.take i)[k]? = some y := ⟨(stand.take i)[k], List.getElem?_eq_getElem hk⟩
    have hy2 : stand[k]? = some y := by
      rw [List.getElem?_take_of_lt (by rw [List.length_take] at hk; omega)] at hy
      exact hy
    have fl2 : ((stand.take i).filter (frd ps x)).getLast? = some y := fl.trans hy
    obtain ⟨ys, hz⟩ := List.getLast?_eq_some_iff.mp fl2
    have ne : ¬ (stand.take i).filter (frd ps x) = [] := fun z => by rw [z] at fl2; cases fl2
    rw [decide_eq_false ne]
    refine ⟨.ref D, rfl, 1, rfl, D, _, -1, .str y, rfl, rfl, .inl (.inl d3), ?_, ?_⟩
    · rw [hz, List.map_append]
      exact atI_last _ _
    · rw [← hostV_some hy2]
      exact q _ s3
/-! ### _law_words -/
abbrev sWords : Stmt := topS 42
abbrev nWords : List Str := ["_law_pals_here", "_law_stand", "_law_mine", "_law_its", "_law_here", "_law_there", "_law_found", "_law_host_here"]
theorem scWords : FnScope nWords ["_law_pals_here", "_law_stand", "_law_mine", "_law_its"] (defScope sWords) := ⟨rfl, rfl, rfl, by decide +kernel, rfl, by decide +kernel, by decide +kernel⟩
theorem ok_words {f : Addr} {fd : FuncData} (CA : Cal P w K mg base 1 "_law_are" ["_law_pals_here", "_law_mine", "_law_its"] spAre) (CH : Cal P w K mg base 2 "_law_host" ["_law_pals_here", "_law_stand", "_law_name"] spHost) (F : Fun K "_law_words" "_law_words" sWords f fd) : FnOk P w K mg base CX0 3 f fd ["_law_pals_here", "_law_stand", "_law_mine", "_law_its"] spWords := by
  refine fok F scWords (fun vs H Q E h => ?_) (fun cdv A outer s H vs Q E hr h => ?_)
  · obtain ⟨a, t, ps, stand, x, y, i, j, rfl, _⟩ := h
    rfl
  obtain ⟨a, t, ps, stand, x, y, i, j, rfl, ha, ho, ht, gs, nd, hn, hi, hj, q⟩ := h
  refine ⟨_, pss_cons (ps_par3 (i := 4) (j := 5) (l := 6) (by rfl) scWords.nd rfl rfl rfl (by decide) (by decide) (by decide) rfl rfl rfl (pa_cons (pe_bmT PySem.F.slot_tuple_index PySem.F.type_tuple_index mt_tup_index (pv 1) (pa_cons (pv 2) pa_nil)) (pa_cons (pe_bmT PySem.F.slot_tuple_index PySem.F.type_tuple_index mt_tup_index (pv 1) (pa_cons (pv 3) pa_nil)) (pa_cons (pe_lst pa_nil) pa_nil))) (by rfl))
    (pss_cons (ps_set (i := 7) scWords.nd rfl (.inl rfl) (pe_cal CH hr (pa_cons (pv 0) (pa_cons (pv 1) (pa_cons (pv 2) pa_nil)))))
    (pss_cons (ps_mid (ps_if (pt_mid (PW.pt (pw_and (pt_cmpR op_gt (pv 5) (pv 4) (nomark _)) (pw_and1 (pt_cmp (pc_isN (pv 7))))))) (pss_one (ps_expr (pe_bm PySem.F.plainAttrs_list PySem.F.slot_list_append PySem.F.type_list_append mt_append (pv 6) (pa_cons pe_str pa_nil)))) pss_nil))
    (pss_cons (ps_mid (ps_if (pt_mid (PW.pt (pw_and (pt_cmp (pc_notN (pv 7))) (pw_and1 (pt_chain op_lt op_lt (pe_bmT PySem.F.slot_tuple_index PySem.F.type_tuple_index mt_tup_index (pv 1) (pa_cons (pv 7) pa_nil)) (pv 5) (pv 4)))))) (pss_one (ps_expr (pe_bm PySem.F.plainAttrs_list PySem.F.slot_list_append PySem.F.type_list_append mt_append (pv 6) (pa_cons pe_str pa_nil)))) pss_nil))
    (pss_cons (ps_mid (ps_if (pt_mid (PW.pt (pw_and (pt_cmpR op_gt (pv 5) (pv 4) (nomark _)) (pw_and1 (pt_val (pe_cal CA hr (pa_cons (pv 0) (pa_cons (pv 2) (pa_cons (pv 3) pa_nil))))))))) (pss_one (ps_expr (pe_bm PySem.F.plainAttrs_list PySem.F.slot_list_append PySem.F.type_list_append mt_append (pv 6) (pa_cons pe_str pa_nil)))) pss_nil))
    (pss_one (ps_ret (pv 6))))))), ?_⟩
  have gx : Good x := gs.at_ hi
  have gy : Good y := gs.at_ hj
  refine ⟨.ref t, rfl, ⟨t, _, rfl, ht⟩, _, rfl, t, stand, x, i, rfl, rfl, ht.sq, hi, nd_first nd hi, .ref t, rfl, ⟨t, _, rfl, ht⟩, _, rfl, t, stand, y, j, rfl, rfl, ht.sq, hj, nd_first nd hj, (by show 0 ≤ sizeLine; decide), fun p hp => ⟨_, _, _, rfl, ?_⟩⟩
  have s1 : Same H (upd H p (.lst [])) := same_upd hp
  refine ⟨_, rfl, _, rfl, _, rfl, a, t, ps, stand, x, i, rfl, ha.same s1, ho, ht.same s1, gs, nd, hn, hi, fun H2 s2 => ?_⟩
  have s3 := s1.trans s2
  have e3 := s2 _ _ (upd_same (H := H) (a := p) (o := .lst []))
  generalize hh : lastP (frd ps x) (stand.take i) = host
  have hk : ∀ k, host = some k → ∃ z, stand[k]? = some z ∧ hostV stand host = .str z := by
    intro k ek
    rw [ek] at hh
    have h1 := lastP_lt hh
    rw [List.length_take] at h1
    obtain ⟨z, hz⟩ : ∃ z, stand[k]? = some z := ⟨stand[k]'(by omega), List.getElem?_eq_getElem _⟩
    exact ⟨z, hz, by rw [ek]; exact hostV_some hz⟩
  generalize hg : hostV stand host = hv at hk
  have app : ∀ (H3 : Hp) (acc : List Str) (c b : Bool) (w : Str) (D : Ends), Same H H3 → H3 p = some (.lst (acc.map V.str)) → acc.length ≤ 10 → b = c → D.nx = (fun σ' H' => σ' = [some (.ref a), some (.ref t), some (.str x), some (.str y), some (.int (i : Nat)), some (.int (j : Nat)), some (.ref p), some hv] ∧ Same H H' ∧ H' p = some (.lst ((acc ++ optW c w).map V.str))) →
      if b = true then (tDrop (tBM K "list" rAppend (tVar 6) (tCons (tC (.str w)) tNil))) D [some (.ref a), some (.ref t), some (.str x), some (.str y), some (.int (i : Nat)), some (.int (j : Nat)), some (.ref p), some hv] H3 else tNext D [some (.ref a), some (.ref t), some (.str x), some (.str y), some (.int (i : Nat)), some (.int (j : Nat)), some (.ref p), some hv] H3 := by
    rintro H3 acc c b w D s e al rfl hD
    refine ite2 (fun z => ?_) (fun z => ?_)
    · refine ⟨.ref p, rfl, .inl ⟨rfl, _, .inl (.inl e)⟩, p, _, _, rfl, rfl, e, (by rw [List.length_map]; exact small1000 (by omega)), ?_⟩
      rw [hD]
      refine ⟨rfl, fun b o e' => ?_, ?_⟩
      · rw [upd_ne (ne_of_none e' hp)]
        exact s _ _ e'
      · rw [upd_same, optW, if_pos z, List.map_append]
        rfl
    · show D.nx _ _
      rw [hD]
      refine ⟨rfl, s, ?_⟩
      rw [optW, if_neg z, List.append_nil]
      exact e
  have oneL : ∀ (c : Bool) (w : Str), (optW c w).length ≤ 1 := fun c w => by
    unfold optW
    split
    · exact Nat.le_refl _
    · exact Nat.zero_le _
  have isN : decide (hv = .non) = decide (host = none) := by
    cases host with
    | none => rw [← hg]; rfl
    | some k =>
      obtain ⟨z, _, ez⟩ := hk k rfl
      rw [ez]
      rfl
  -- behind
  refine ⟨fun σ' H' => σ' = [some (.ref a), some (.ref t), some (.str x), some (.str y), some (.int (i : Nat)), some (.int (j : Nat)), some (.ref p), some hv] ∧ Same H H' ∧ H' p = some (.lst (([] ++ optW (decide (host = none) && decide (i < j)) "behind").map V.str)), ?_, ?_⟩
  · refine ⟨fun b H' => b = (decide (host = none) && decide (i < j)) ∧ H' = H2, ?_, ?_⟩
    · refine ⟨_, rfl, _, rfl, _, _, rfl, rfl, _, rfl, ite2 (fun z => ?_) (fun z => ?_)⟩
      · have z1 := of_decide_eq_true z
        refine ⟨_, rfl, _, rfl, ?_, rfl⟩
        rw [isN, decide_eq_true (show i < j by omega), Bool.and_true]
      · have z1 := of_decide_eq_false (Bool.eq_false_iff.mpr z)
        refine ⟨?_, rfl⟩
        rw [decide_eq_false (show ¬ i < j by omega), Bool.and_false]
    · rintro b H' ⟨eb, rfl⟩
      exact app _ [] _ b "behind" _ s3 e3 (Nat.zero_le _) eb rfl
  rintro σ4 H4 ⟨rfl, s4, e4⟩
  rw [List.nil_append] at e4
  have l4 := oneL (decide (host = none) && decide (i < j)) "behind"
  -- between
  refine ⟨fun σ' H' => σ' = [some (.ref a), some (.ref t), some (.str x), some (.str y), some (.int (i : Nat)), some (.int (j : Nat)), some (.ref p), some hv] ∧ Same H H' ∧ H' p = some (.lst ((optW (decide (host = none) && decide (i < j)) "behind" ++ optW (btw i j host) "between").map V.str)), ?_, ?_⟩
  · refine ⟨fun b H' => b = btw i j host ∧ H' = H4, ?_, ?_⟩
    · refine ⟨_, rfl, _, rfl, ?_⟩
      rw [isN]
      cases host with
      | none => exact ⟨rfl, rfl⟩
      | some k =>
        obtain ⟨z, hz, ez⟩ := hk k rfl
        subst ez
        have t4 := ht.same s4
        refine ⟨.ref t, rfl, ⟨t, _, rfl, t4⟩, _, rfl, t, stand, z, k, rfl, rfl, t4.sq, hz, nd_first nd hz, _, rfl, _, _, rfl, rfl, _, rfl, ite2 (fun c => ?_) (fun c => ?_)⟩
        · refine ⟨_, rfl, _, _, rfl, rfl, _, rfl, ?_, rfl⟩
          have z1 := of_decide_eq_true c
          show _ = (decide (k < j) && decide (j < i))
          rw [decide_eq_true (show k < j by omega), Bool.true_and]
          exact decide_eq_decide.mpr (by omega)
        · refine ⟨_, rfl, ?_, rfl⟩
          have z1 := of_decide_eq_false (Bool.eq_false_iff.mpr c)
          show _ = (decide (k < j) && decide (j < i))
          rw [decide_eq_false (show ¬ k < j by omega), Bool.false_and]
    · rintro b H' ⟨eb, rfl⟩
      exact app _ _ _ b "between" _ s4 e4 (by omega) eb rfl
  rintro σ5 H5 ⟨rfl, s5, e5⟩
  have l5 := oneL (btw i j host) "between"
  -- friend
  refine ⟨fun σ' H' => σ' = [some (.ref a), some (.ref t), some (.str x), some (.str y), some (.int (i : Nat)), some (.int (j : Nat)), some (.ref p), some hv] ∧ Same H H' ∧ H' p = some (.lst (((optW (decide (host = none) && decide (i < j)) "behind" ++ optW (btw i j host) "between") ++ optW (decide (i < j) && frd ps x y) "friend").map V.str)), ?_, ?_⟩
  · refine ⟨fun b H' => b = (decide (i < j) && frd ps x y) ∧ Same H H' ∧ H' p = some (.lst ((optW (decide (host = none) && decide (i < j)) "behind" ++ optW (btw i j host) "between").map V.str)), ?_, ?_⟩
    · refine ⟨_, rfl, _, rfl, _, _, rfl, rfl, _, rfl, ite2 (fun z => ?_) (fun z => ?_)⟩
      · have z1 := of_decide_eq_true z
        refine ⟨_, rfl, _, rfl, _, rfl, a, ps, x, y, rfl, ha.same s5, ho, gx, gy, fun H6 s6 => ⟨_, rfl, ?_, s5.trans s6, s6 _ _ e5⟩⟩
        rw [decide_eq_true (show i < j by omega), Bool.true_and]
      · have z1 := of_decide_eq_false (Bool.eq_false_iff.mpr z)
        refine ⟨?_, s5, e5⟩
        rw [decide_eq_false (show ¬ i < j by omega), Bool.false_and]
    · rintro b H' ⟨eb, s6, e6⟩
      exact app _ _ _ b "friend" _ s6 e6 (by rw [List.length_append]; omega) eb rfl
  rintro σ6 H6 ⟨rfl, s6, e6⟩
  refine ⟨.ref p, rfl, q p H6 s6 hp ?_⟩
  rw [e6, wordsOf, hh]
/-! ### _law_same -/
abbrev sSame : Stmt := topS 43
abbrev nSame : List Str := ["_law_found", "_law_due", "_law_piece", "_law_part"]
theorem scSame : FnScope nSame ["_law_found", "_law_due"] (defScope sSame) := ⟨rfl, rfl, rfl, by decide +kernel, rfl, by decide +kernel, by decide +kernel⟩
theorem ok_same_step {f : Addr} {fd : FuncData} {n : Nat} (B : Blt mg) (CS : Cal P w K mg base n "_law_same" ["_law_found", "_law_due"] (spSame n)) (F : Fun K "_law_same" "_law_same" sSame f fd) : FnOk P w K mg base CX0 (n + 1) f fd ["_law_found", "_law_due"] (spSame (n + 1)) := by
  refine fok F scSame (fun vs H Q E h => ?_) (fun cdv A outer s H vs Q E hr h => ?_)
  · obtain ⟨x, y, rfl, _⟩ := h
    rfl
  obtain ⟨x, y, rfl, hA, q⟩ := h
  refine ⟨_, pss_cons (ps_if (pt_val (pe_callB call_isiT (by rfl) B.isinstance (by decide +kernel) (pa_cons (pv 1) (pa_cons (pe_tup (pa_cons (pe_bltn (v := .ty "list") (by rfl) B.list (by decide +kernel) rfl) (pa_cons (pe_bltn (v := .ty "tuple") (by rfl) B.tuple (by decide +kernel) rfl) pa_nil))) pa_nil))))
      (pss_cons (ps_if (PW.pt (pw_or (pt_cmpR op_ne (pe_callB call_isi (by rfl) B.isinstance (by decide +kernel) (pa_cons (pv 0) (pa_cons (pe_bltn (v := .ty "list") (by rfl) B.list (by decide +kernel) rfl) pa_nil))) (pe_callB call_isi (by rfl) B.isinstance (by decide +kernel) (pa_cons (pv 1) (pa_cons (pe_bltn (v := .ty "list") (by rfl) B.list (by decide +kernel) rfl) pa_nil))) (nomark _))
          (pw_or1 (pt_cmpR op_ne (pe_callB call_isi (by rfl) B.isinstance (by decide +kernel) (pa_cons (pv 0) (pa_cons (pe_bltn (v := .ty "tuple") (by rfl) B.tuple (by decide +kernel) rfl) pa_nil))) (pe_callB call_isi (by rfl) B.isinstance (by decide +kernel) (pa_cons (pv 1) (pa_cons (pe_bltn (v := .ty "tuple") (by rfl) B.tuple (by decide +kernel) rfl) pa_nil))) (nomark _)))))
        (pss_one (ps_ret pe_bl)) pss_nil)
      (pss_one (ps_ret (pe_and (pe_cmpR op_eq (pe_callB call_len_seq (by rfl) B.len PySem.boot_len (pa_cons (pv 0) pa_nil)) (pe_callB call_len_seq (by rfl) B.len PySem.boot_len (pa_cons (pv 1) pa_nil)) (nomark _))
        (pe_one (pe_callB (cr_all rfl) (by rfl) B.all (by decide +kernel) (pa_cons (pe_lc (own := [("_law_piece", 2), ("_law_part", 3)]) (g := gTup K 2 (gCons (gName 2) (gCons (gName 3) gNil))) (tt := tYes) rfl scSame.nd (RZ.pi_zipA (by rfl) B.zip (pa_cons (pv 0) (pa_cons (pv 1) pa_nil))) (blkOk_by (N := nSame) (sc := defScope sSame) (by decide +kernel))
          (fun _ _ _ _ _ => pg_tup rfl (pgs_cons (pg_name (i := 2) scSame.nd rfl (Or.inl rfl)) (pgs_cons (pg_name (i := 3) scSame.nd rfl (Or.inl rfl)) pgs_nil))) (fun _ _ _ _ _ => pts_nil) (fun _ _ _ _ _ => pe_cal CS hr (pa_cons (pv 2) (pa_cons (pv 3) pa_nil)))) pa_nil))))))) pss_nil)
    (pss_cons (ps_if (PW.pt (pw_or (pt_cmp (pc_isN (pv 1))) (pw_or1 (pt_val (pe_callB call_isi (by rfl) B.isinstance (by decide +kernel) (pa_cons (pv 1) (pa_cons (pe_bltn (v := .ty "str") (by rfl) B.str (by decide +kernel) rfl) pa_nil)))))))
      (pss_one (ps_ret (pe_and (pe_cmpR op_eq (pe_callB call_isi (by rfl) B.isinstance (by decide +kernel) (pa_cons (pv 0) (pa_cons (pe_bltn (v := .ty "str") (by rfl) B.str (by decide +kernel) rfl) pa_nil))) (pe_callB call_isi (by rfl) B.isinstance (by decide +kernel) (pa_cons (pv 1) (pa_cons (pe_bltn (v := .ty "str") (by rfl) B.str (by decide +kernel) rfl) pa_nil))) (nomark _)) (pe_one (pe_cmpR op_eq (pv 0) (pv 1) (nomark _)))))) pss_nil)
    (pss_one (ps_ret (pe_and (pe_callB call_isi (by rfl) B.isinstance (by decide +kernel) (pa_cons (pv 0) (pa_cons (pe_bltn (v := .ty "int") (by rfl) B.int (by decide +kernel) rfl) pa_nil)))
      (pe_and (pe_cmpR op_eq (pe_callB call_isi (by rfl) B.isinstance (by decide +kernel) (pa_cons (pv 0) (pa_cons (pe_bltn (v := .ty "bool") (by rfl) B.bool (by decide +kernel) rfl) pa_nil))) (pe_callB call_isi (by rfl) B.isinstance (by decide +kernel) (pa_cons (pv 1) (pa_cons (pe_bltn (v := .ty "bool") (by rfl) B.bool (by decide +kernel) rfl) pa_nil))) (nomark _)) (pe_one (pe_cmpR op_eq (pv 0) (pv 1) (nomark _)))))))), ?_⟩
  have l2 : (2 : Nat) ≤ sizeLine := by decide
  rcases hA with ⟨hx, rfl⟩ | ⟨a, b, xs, ys, rfl, rfl, h1, h2, hl, hz, h⟩ | ⟨a, b, xs, ys, rfl, rfl, h1, h2, hl, hz, h⟩
  · rcases hx with rfl | ⟨c, rfl⟩ | ⟨c, rfl⟩ | ⟨c, rfl⟩
    · refine ⟨_, rfl, l2, fun p hp => ⟨_, p, _, _, _, false, rfl, upd_same, .cons (.ty _) (.cons (.ty _) .nil), .base .non, kitAny_cons (b := false) (kit_ty (by decide +kernel)) (fun _ => kitAny_cons (b := false) (kit_ty (by decide +kernel)) (fun _ => kitAny_nil) (fun z => nomatch z)) (fun z => nomatch z), _, rfl, ?_⟩⟩
      refine ⟨_, rfl, _, rfl, ?_⟩
      refine ⟨_, rfl, _, _, _, _, false, rfl, .ty _, .base .non, kit_ty (by decide +kernel), _, rfl, _, _, _, _, false, rfl, .ty _, .base .non, kit_ty (by decide +kernel), rfl, _, rfl, ?_⟩
      exact ⟨_, rfl, _, rfl, rfl, q _ (same_upd hp)⟩
    · refine ⟨_, rfl, l2, fun p hp => ⟨_, p, _, _, _, false, rfl, upd_same, .cons (.ty _) (.cons (.ty _) .nil), .base (.bl c), kitAny_cons (b := false) (kit_ty (by decide +kernel)) (fun _ => kitAny_cons (b := false) (kit_ty (by decide +kernel)) (fun _ => kitAny_nil) (fun z => nomatch z)) (fun z => nomatch z), _, rfl, ?_⟩⟩
      refine ⟨_, rfl, _, rfl, _, rfl, _, _, _, _, false, rfl, .ty _, .base (.bl c), kit_ty (by decide +kernel), _, rfl, ?_⟩
      refine ⟨_, rfl, _, _, _, _, true, rfl, .ty _, .base (.bl c), kit_ty (by decide +kernel), _, rfl, ?_⟩
      refine ⟨_, rfl, _, _, _, _, true, rfl, .ty _, .base (.bl c), kit_ty (by decide +kernel), _, rfl, _, _, _, _, true, rfl, .ty _, .base (.bl c), kit_ty (by decide +kernel), rfl, _, rfl, ?_⟩
      refine ⟨_, rfl, _, rfl, rfl, ?_⟩
      rw [decide_eq_true rfl]
      exact q _ (same_upd hp)
    · refine ⟨_, rfl, l2, fun p hp => ⟨_, p, _, _, _, false, rfl, upd_same, .cons (.ty _) (.cons (.ty _) .nil), .base (.int c), kitAny_cons (b := false) (kit_ty (by decide +kernel)) (fun _ => kitAny_cons (b := false) (kit_ty (by decide +kernel)) (fun _ => kitAny_nil) (fun z => nomatch z)) (fun z => nomatch z), _, rfl, ?_⟩⟩
      refine ⟨_, rfl, _, rfl, _, rfl, _, _, _, _, false, rfl, .ty _, .base (.int c), kit_ty (by decide +kernel), _, rfl, ?_⟩
      refine ⟨_, rfl, _, _, _, _, true, rfl, .ty _, .base (.int c), kit_ty (by decide +kernel), _, rfl, ?_⟩
      refine ⟨_, rfl, _, _, _, _, false, rfl, .ty _, .base (.int c), kit_ty (by decide +kernel), _, rfl, _, _, _, _, false, rfl, .ty _, .base (.int c), kit_ty (by decide +kernel), rfl, _, rfl, ?_⟩
      refine ⟨_, rfl, _, rfl, rfl, ?_⟩
      rw [decide_eq_true rfl]
      exact q _ (same_upd hp)
    · refine ⟨_, rfl, l2, fun p hp => ⟨_, p, _, _, _, false, rfl, upd_same, .cons (.ty _) (.cons (.ty _) .nil), .base (.str c), kitAny_cons (b := false) (kit_ty (by decide +kernel)) (fun _ => kitAny_cons (b := false) (kit_ty (by decide +kernel)) (fun _ => kitAny_nil) (fun z => nomatch z)) (fun z => nomatch z), _, rfl, ?_⟩⟩
      refine ⟨_, rfl, _, rfl, _, rfl, _, _, _, _, true, rfl, .ty _, .base (.str c), kit_ty (by decide +kernel), _, rfl, ?_⟩
      refine ⟨_, rfl, _, _, _, _, true, rfl, .ty _, .base (.str c), kit_ty (by decide +kernel), _, rfl, _, _, _, _, true, rfl, .ty _, .base (.str c), kit_ty (by decide +kernel), rfl, _, rfl, ?_⟩
      refine ⟨_, rfl, _, rfl, rfl, ?_⟩
      rw [decide_eq_true rfl]
      exact q _ (same_upd hp)
  · refine ⟨_, rfl, l2, fun p hp => ⟨_, p, _, _, _, true, rfl, upd_same, .cons (.ty _) (.cons (.ty _) .nil), .base (.lst (same_upd hp _ _ h2)), kitAny_cons (b := true) (kit_ty (by decide +kernel)) (fun z => nomatch z) (fun _ => rfl), _, rfl, ?_⟩⟩
    have sp : Same H (upd H p (.tup [.ty "list", .ty "tuple"])) := same_upd hp
    have k1 := sp _ _ h1
    have k2 := sp _ _ h2
    refine ⟨_, rfl, _, _, _, _, true, rfl, .ty _, .base (.lst k1), kit_ty (by decide +kernel), _, rfl, _, _, _, _, true, rfl, .ty _, .base (.lst k2), kit_ty (by decide +kernel), rfl, _, rfl, ?_⟩
    refine ⟨_, rfl, _, _, _, _, false, rfl, .ty _, .base (.lst k1), kit_ty (by decide +kernel), _, rfl, _, _, _, _, false, rfl, .ty _, .base (.lst k2), kit_ty (by decide +kernel), rfl, _, rfl, ?_⟩
    refine ⟨_, rfl, a, _, rfl, .inl (.inl (.inl k1)), _, rfl, b, _, rfl, .inl (.inl (.inl k2)), rfl, _, rfl, ?_⟩
    rw [hl, decide_eq_true rfl]
    refine ⟨_, rfl, _, rfl, a, b, xs, ys, rfl, .inl ⟨.inl (.inl k1), .inl (.inl k2), fun D hD => ?_⟩⟩
    refine lc_it (walk_zip (xs := xs) (ys := ys) (n := xs.length) (by omega)) (fun i H' => Same (upd H p (.tup [.ty "list", .ty "tuple"])) H' ∧ H' D = some (.lst ((List.replicate i true).map V.bl))) ?_ ?_ ?_ ?_
    · exact ⟨same_upd hD, upd_same⟩
    · rintro i H' _ ⟨s2, _⟩
      exact ⟨.inl (.inl (s2 _ _ k1)), .inl (.inl (s2 _ _ k2))⟩
    · rintro i v H2 H3 hi ⟨s2, d2⟩ ⟨T, u1, u2, rfl, nT, rfl, e1, e2⟩
      have s3 := s2.trans (same_upd (o := .tup [u1, u2]) nT)
      refine ⟨T, _, rfl, .inl (.inl upd_same), rfl, _, _, rfl, _, _, rfl, rfl, rfl, ?_⟩
      refine ⟨_, rfl, _, rfl, u1, u2, rfl, (h i u1 u2 e1 e2).same (sp.trans s3), fun H4 s4 => ?_⟩
      have d4 := s4 _ _ (same_upd nT _ _ d2)
      refine ⟨_, d4, ?_, fun c o e => ?_, ?_⟩
      · rw [List.length_map, List.length_replicate]
        exact small1000 (by omega)
      · rw [upd_ne (ne_of_none e hD)]
        exact s4 _ _ (s3 _ _ e)
      · rw [upd_same, List.replicate_succ', List.map_append]
        rfl
    · rintro H2 ⟨s2, d2⟩
      refine ⟨D, _, rfl, .inl (.inl d2), ?_⟩
      rw [show (List.replicate xs.length true).all id = true by simp]
      exact q _ (sp.trans s2)
  · refine ⟨_, rfl, l2, fun p hp => ⟨_, p, _, _, _, true, rfl, upd_same, .cons (.ty _) (.cons (.ty _) .nil), (h2.same (same_upd hp)).ty, kitAny_cons (b := false) (kit_ty (by decide +kernel)) (fun _ => kitAny_cons (b := true) (kit_ty (by decide +kernel)) (fun z => nomatch z) (fun _ => rfl)) (fun z => nomatch z), _, rfl, ?_⟩⟩
    have sp : Same H (upd H p (.tup [.ty "list", .ty "tuple"])) := same_upd hp
    have k1 := h1.same sp
    have k2 := h2.same sp
    refine ⟨_, rfl, _, _, _, _, false, rfl, .ty _, k1.ty, kit_ty (by decide +kernel), _, rfl, _, _, _, _, false, rfl, .ty _, k2.ty, kit_ty (by decide +kernel), rfl, _, rfl, ?_⟩
    refine ⟨_, rfl, _, _, _, _, true, rfl, .ty _, k1.ty, kit_ty (by decide +kernel), _, rfl, _, _, _, _, true, rfl, .ty _, k2.ty, kit_ty (by decide +kernel), rfl, _, rfl, ?_⟩
    refine ⟨_, rfl, a, _, rfl, .inr k1.sq, _, rfl, b, _, rfl, .inr k2.sq, rfl, _, rfl, ?_⟩
    rw [hl, decide_eq_true rfl]
    refine ⟨_, rfl, _, rfl, a, b, xs, ys, rfl, .inr ⟨k1.sq, k2.sq, fun D hD => ?_⟩⟩
    refine lc_it (walk_zipT (xs := xs) (ys := ys) (n := xs.length) (by omega)) (fun i H' => Same (upd H p (.tup [.ty "list", .ty "tuple"])) H' ∧ H' D = some (.lst ((List.replicate i true).map V.bl))) ?_ ?_ ?_ ?_
    · exact ⟨same_upd hD, upd_same⟩
    · rintro i H' _ ⟨s2, _⟩
      exact ⟨(k1.same s2).sq, (k2.same s2).sq⟩
    · rintro i v H2 H3 hi ⟨s2, d2⟩ ⟨T, u1, u2, rfl, nT, rfl, e1, e2⟩
      have s3 := s2.trans (same_upd (o := .tup [u1, u2]) nT)
      refine ⟨T, _, rfl, .inl (.inl upd_same), rfl, _, _, rfl, _, _, rfl, rfl, rfl, ?_⟩
      refine ⟨_, rfl, _, rfl, u1, u2, rfl, (h i u1 u2 e1 e2).same (sp.trans s3), fun H4 s4 => ?_⟩
      have d4 := s4 _ _ (same_upd nT _ _ d2)
      refine ⟨_, d4, ?_, fun c o e => ?_, ?_⟩
      · rw [List.length_map, List.length_replicate]
        exact small1000 (by omega)
      · rw [upd_ne (ne_of_none e hD)]
        exact s4 _ _ (s3 _ _ e)
      · rw [upd_same, List.replicate_succ', List.map_append]
        rfl
    · rintro H2 ⟨s2, d2⟩
      refine ⟨D, _, rfl, .inl (.inl d2), ?_⟩
      rw [show (List.replicate xs.length true).all id = true by simp]
      exact q _ (sp.trans s2)
theorem ok_same {f : Addr} {fd : FuncData} (B : Blt mg) (F : Fun K "_law_same" "_law_same" sSame f fd) (hm : mg "_law_same" = some (.ref f)) (hb : L2.Binds K fd ["_law_found", "_law_due"] []) : ∀ n : Nat, FnOk P w K mg base CX0 n f fd ["_law_found", "_law_due"] (spSame n)
  | 0 => by
    have no : ∀ vs H Q E, ¬ spSame 0 vs H Q E := fun vs H Q E h => by
      obtain ⟨_, _, _, h, _⟩ := h
      exact h
    exact ⟨fun vs H Q E h => absurd h (no vs H Q E), fun A outer s H args us vs Q E _ _ _ _ h => absurd h (no vs H Q E)⟩
  | n + 1 => ok_same_step B ⟨f, fd, ok_same B F hm hb n, hm, F.kp, hb⟩ F
/-! ### both_ways -/
abbrev sBoth : Stmt := topS 4
abbrev nBoth : List Str := ["friends", "known", "one", "other"]
theorem scBoth : FnScope nBoth ["friends"] (defScope sBoth) := ⟨rfl, rfl, rfl, by decide +kernel, rfl, by decide +kernel, by decide +kernel⟩
theorem ok_both {f : Addr} {fd : FuncData} (F : Fun K "both_ways" "both_ways" sBoth f fd) : FnOk P w K mg base CX0 1 f fd ["friends"] spBoth := by
  refine fok F scBoth (fun vs H Q E h => ?_) (fun cdv A outer s H vs Q E hr h => ?_)
  · obtain ⟨a, ps, rfl, _⟩ := h
    rfl
  obtain ⟨a, ps, rfl, ⟨bs, ha, hp, rfl⟩, hn, q⟩ := h
  rw [List.length_map] at hn
  have hu := hu_of hr
  refine ⟨_, pss_cons (ps_set (i := 1) scBoth.nd rfl (.inl rfl) pe_dnewT)
    (pss_cons (ps_for PassesOwn.never rfl (pi_or2 (pi_list (pv 0)) (pi_tup (pv 0))) (pg_orM (pg_tup rfl (pgs_cons (pg_name (i := 2) scBoth.nd rfl (.inl rfl)) (pgs_cons (pg_name (i := 3) scBoth.nd rfl (.inl rfl)) pgs_nil))) (pg_unl rfl (pgs_cons (pg_name (i := 2) scBoth.nd rfl (.inl rfl)) (pgs_cons (pg_name (i := 3) scBoth.nd rfl (.inl rfl)) pgs_nil))))
      (pss_cons (ps_dput hu (pv 1) (pe_tup (pa_cons (pv 2) (pa_cons (pv 3) pa_nil))) pe_bl rfl)
      (pss_one (ps_dput hu (pv 1) (pe_tup (pa_cons (pv 3) (pa_cons (pv 2) pa_nil))) pe_bl rfl))))
    (pss_one (ps_ret (pv 1)))), ?_⟩
  refine fun d hd => ?_
  have s0 : Same H (upd H d (.dT [])) := same_upd hd
  have Pv : ∃ Pv : Nat → L2.St → Hp → Prop, Pv = fun i σ H' => ∃ (y2 y3 : Option V) (kvs : List (List Key × V)), σ = [some (.ref a), some (.ref d), y2, y3] ∧ Same H H' ∧ H' d = some (.dT kvs) ∧ kvs.length ≤ 2 * i ∧ ∀ x y, (valV kvs (k2 x y)).isSome = frd ((bs.map (·.2)).take i) x y := ⟨_, rfl⟩
  obtain ⟨Pv, hPv⟩ := Pv
  have start : Pv 0 [some (.ref a), some (.ref d), none, none] (upd H d (.dT [])) := by
    rw [hPv]
    exact ⟨_, _, [], rfl, s0, upd_same, Nat.zero_le _, fun x y => rfl⟩
  have turn : ∀ (i : Nat) (c : B3) (σ : L2.St) (H1 : Hp), bs[i]? = some c → Pv i σ H1 → ∀ (D : Ends), D.nx = Pv (i + 1) →
      (tSeq (sDPut (tVar 1) (tTup (tCons (tVar 2) (tCons (tVar 3) tNil))) (tC (.bl true))) (sDPut (tVar 1) (tTup (tCons (tVar 3) (tCons (tVar 2) tNil))) (tC (.bl true)))) D ((σ.set 2 (some (.str c.2.1))).set 3 (some (.str c.2.2))) H1 := by
    intro i c σ H1 hc pv D hD
    rw [hPv] at pv
    obtain ⟨y2, y3, kvs, rfl, s1, e1, l1, v1⟩ := pv
    have hi : i < bs.length := (List.getElem?_eq_some_iff.mp hc).1
    refine ⟨_, rfl, _, rfl, _, rfl, (by show 2 ≤ sizeLine; decide), fun p hp' => ?_⟩
    have n1 : d ≠ p := ne_of_none e1 hp'
    have e2 : upd H1 p (.tup [.str c.2.1, .str c.2.2]) d = some (.dT kvs) := (upd_ne n1).trans e1
    refine ⟨d, _, rfl, DPut.t (k := k2 c.2.1 c.2.2) e2 upd_same (small9 (by omega)), ?_⟩
    have pl := putK_len (kvs := kvs) (k := k2 c.2.1 c.2.2) (v := V.bl true)
    refine ⟨_, rfl, _, rfl, _, rfl, (by show 2 ≤ sizeLine; decide), fun p2 hp2 => ?_⟩
    have n2 : d ≠ p2 := fun z => by rw [← z, upd_same] at hp2; cases hp2
    refine ⟨d, _, rfl, DPut.t (k := k2 c.2.2 c.2.1) ((upd_ne n2).trans upd_same) upd_same (small9 (by omega)), ?_⟩
    have pl2 := putK_len (kvs := putK kvs (k2 c.2.1 c.2.2) (V.bl true)) (k := k2 c.2.2 c.2.1) (v := V.bl true)
    rw [hD, hPv]
    refine ⟨_, _, _, rfl, fun b o e => ?_, upd_same, by omega, fun x y => ?_⟩
    · have nb : b ≠ d := ne_of_none e hd
      rw [upd_ne nb]
      refine same_upd hp2 _ _ ?_
      rw [upd_ne nb]
      exact same_upd hp' _ _ (s1 _ _ e)
    · rw [both_put v1, List.take_add_one, List.getElem?_map, hc]
      rfl
  have fin : ∀ (σ : L2.St) (H1 : Hp), Pv (refs bs).length σ H1 → ∃ v, σ[1]? = some (some v) ∧ Q v H1 := by
    intro σ H1 pv
    rw [hPv] at pv
    obtain ⟨y2, y3, kvs, rfl, s1, e1, l1, v1⟩ := pv
    refine ⟨.ref d, rfl, q d H1 s1 hd ⟨kvs, e1, fun x y => ?_⟩⟩
    rw [v1, List.take_of_length_le (by show (bs.map _).length ≤ (bs.map _).length; rw [List.length_map, List.length_map]; exact Nat.le_refl _)]
  have item : ∀ (i : Nat) (v : V) (σ : L2.St) (H1 : Hp), (refs bs)[i]? = some v → Pv i σ H1 → ∃ c : B3, bs[i]? = some c ∧ v = .ref c.1 ∧ (H1 c.1 = some (.tup [.str c.2.1, .str c.2.2]) ∨ H1 c.1 = some (.lst [.str c.2.1, .str c.2.2])) := by
    intro i v σ H1 e pv
    rw [hPv] at pv
    obtain ⟨y2, y3, kvs, rfl, s1, e1, l1, v1⟩ := pv
    obtain ⟨c, hc, rfl⟩ := at_map e
    exact ⟨c, hc, rfl, (hp c (List.mem_of_getElem? hc)).imp (s1 _ _) (s1 _ _)⟩
  have stay : ∀ (i : Nat) (σ : L2.St) (H1 : Hp), Pv i σ H1 → Same H H1 := by
    intro i σ H1 pv
    rw [hPv] at pv
    obtain ⟨y2, y3, kvs, rfl, s1, _⟩ := pv
    exact s1
  rcases ha with e | e
  · refine .inr ⟨.ref a, rfl, a, rfl, ⟨_, .inl (.inl (s0 _ _ e))⟩, ?_⟩
    refine for_it (walk_tup (xs := refs bs)) Pv start (fun i σ H1 _ pv => .inl (.inl (stay i σ H1 pv _ _ e))) ?_ fin
    rintro i v σ H2 H1 hi pv ⟨rfl, e2⟩
    obtain ⟨c, hc, rfl, h3⟩ := item i v σ _ e2 pv
    rcases h3 with h3 | h3
    · exact Or.inl ⟨c.1, _, rfl, .inl (.inl h3), rfl, _, _, rfl, _, _, rfl, rfl, turn i c σ _ hc pv _ rfl⟩
    · exact Or.inr ⟨c.1, _, rfl, .inl (.inl h3), rfl, _, _, rfl, _, _, rfl, rfl, turn i c σ _ hc pv _ rfl⟩
  · refine .inl ⟨.ref a, rfl, a, rfl, ⟨_, .inl (.inl (s0 _ _ e))⟩, ?_⟩
    refine for_it (walk_list (xs := refs bs)) Pv start (fun i σ H1 _ pv => .inl (.inl (stay i σ H1 pv _ _ e))) ?_ fin
    rintro i v σ H2 H1 hi pv ⟨rfl, e2⟩
    obtain ⟨c, hc, rfl, h3⟩ := item i v σ _ e2 pv
    rcases h3 with h3 | h3
    · exact Or.inl ⟨c.1, _, rfl, .inl (.inl h3), rfl, _, _, rfl, _, _, rfl, rfl, turn i c σ _ hc pv _ rfl⟩
    · exact Or.inr ⟨c.1, _, rfl, .inl (.inl h3), rfl, _, _, rfl, _, _, rfl, rfl, turn i c σ _ hc pv _ rfl⟩
/-! ### last_friend_place -/
abbrev sLfp : Stmt := topS 5
abbrev nLfp : List Str := ["known", "row", "who", "places", "place", "other"]
theorem scLfp : FnScope nLfp ["known", "row", "who"] (defScope sLfp) := ⟨rfl, rfl, rfl, by decide +kernel, rfl, by decide +kernel, by decide +kernel⟩
theorem ok_lfp {f : Addr} {fd : FuncData} (B : Blt mg) (F : Fun K "last_friend_place" "last_friend_place" sLfp f fd) : FnOk P w K mg base CX0 1 f fd ["known", "row", "who"] spLfp := by
  refine fok F scLfp (fun vs H Q E h => ?_) (fun cdv A outer s H vs Q E hr h => ?_)
  · obtain ⟨d, r, ps, row, who, rfl, _⟩ := h
    rfl
  obtain ⟨d, r, ps, row, who, rfl, hd, hrow, hn, q⟩ := h
  have hu := hu_of hr
  refine ⟨_, pss_cons (ps_setLc (i := 3) (own := [("place", 4), ("other", 5)]) (g := gTup K 2 (gCons (gName 4) (gCons (gName 5) gNil))) (tt := tB (tDIn (tTup (tCons (tVar 2) (tCons (tVar 5) tNil))) (tVar 0))) rfl scLfp.nd rfl rfl (sw_true rfl rfl rfl (by decide +kernel)) (pi_or2 (pi_enum (by rfl) B.enumerate (pa_cons (pv 1) pa_nil)) (pi_enumT (by rfl) B.enumerate (pa_cons (pv 1) pa_nil))) (blkOk_by (N := nLfp) (sc := defScope sLfp) (by decide +kernel))
        (fun _ _ _ _ _ => pg_tup rfl (pgs_cons (pg_name (i := 4) scLfp.nd rfl (Or.inl rfl)) (pgs_cons (pg_name (i := 5) scLfp.nd rfl (Or.inl rfl)) pgs_nil)))
        (fun _ _ _ _ _ => pts_one (pt_cmp (pc_din hu (pe_tup (pa_cons (pv 2) (pa_cons (pv 5) pa_nil))) (pv 0)))) (fun _ _ _ _ _ => pv 4))
    (pss_one (ps_ret (pe_ifExp (pt_truth (pv 3) (by intro _; rfl)) (pe_ix ix_list (pv 3) (pe_un un_neg pe_int) (fun _ _ => rfl)) pe_non))), ?_⟩
  have key : ∀ (J : It) (G : Hp → Prop), Walk J (row.map V.str).length G (YPair (fun i => some (.int (i : Nat))) (fun i => (row.map V.str)[i]?)) → (∀ H', Same H H' → G H') → ∀ D, H D = none → ∀ (Qd : Hp → Prop), (∀ H' (ls : List Int), Same H H' → H' D = some (.lst (ls.map V.int)) → ls.getLast? = (lastP (frd ps who) row).map (fun k => (k : Int)) → Qd H') →
      ∃ W : Nat → Nat → Hp → Prop, (∃ m, W 0 m (upd H D (.lst []))) ∧ ∀ i m H, W i m H →
      (J.stop i H ∧ Qd H) ∨ (J.go i H ∧ ∃ Nx : Hp → Prop, (∀ H', Nx H' → ∃ m', m' < m ∧ W (i + 1) m' H') ∧ ∀ x H', J.yld i H x H' → (gTup K 2 (gCons (gName 4) (gCons (gName 5) gNil))) x (wipe [some (.ref d), some (.ref r), some (.str who), none, none, none] [4, 5]) H' fun σ2 H2 => wipe σ2 [4, 5] = wipe [some (.ref d), some (.ref r), some (.str who), none, none, none] [4, 5] ∧ (tB (tDIn (tTup (tCons (tVar 2) (tCons (tVar 5) tNil))) (tVar 0))) σ2 H2 fun b H3 =>
        if b = true then (tVar 4) σ2 H3 fun y H4 => ∃ acc, H4 D = some (.lst acc) ∧ acc.length < sizeLine ∧ Nx (upd H4 D (.lst (acc ++ [y]))) else Nx H3) := by
    intro J G wk hG D hD Qd fin
    refine lc_it wk (fun i H' => ∃ ls : List Int, Same H H' ∧ H' D = some (.lst (ls.map V.int)) ∧ ls.length ≤ i ∧ ls.getLast? = (lastP (frd ps who) (row.take i)).map (fun k => (k : Int))) ?_ ?_ ?_ ?_
    · exact ⟨[], same_upd hD, upd_same, Nat.zero_le _, rfl⟩
    · rintro i H' _ ⟨ls, s1, _⟩
      exact hG H' s1
    · rintro i v H1 H2 hi ⟨ls, s1, d1, m1, g1⟩ ⟨T, x1, x2, rfl, nT, rfl, e1, e2⟩
      cases e1
      obtain ⟨o, ho, rfl⟩ := at_map e2
      rw [List.length_map] at hi
      have s2 := s1.trans (same_upd (o := .tup [.int (i : Nat), .str o]) nT)
      refine ⟨T, _, rfl, .inl (.inl upd_same), rfl, _, _, rfl, _, _, rfl, rfl, rfl, ?_⟩
      refine ⟨_, rfl, _, rfl, (by show 2 ≤ sizeLine; decide), fun p hp => ?_⟩
      have s3 := s2.trans (same_upd (o := .tup [.str who, .str o]) hp)
      obtain ⟨kvs, k1, k3⟩ := hd.same s3
      have nDT : D ≠ T := ne_of_none d1 nT
      have d2 : upd H1 T (.tup [.int (i : Nat), .str o]) D = some (.lst (ls.map V.int)) := (upd_ne nDT).trans d1
      have nDp : D ≠ p := ne_of_none d2 hp
      have d3 := (upd_ne (o := .tup [.str who, .str o]) nDp).trans d2
      refine ⟨.ref d, rfl, d, _, rfl, DGet.t (k := k2 who o) k1 upd_same, _, rfl, ?_⟩
      rw [k3]
      have lt := lastP_take (frd ps who) ho
      refine ite2 (fun c => ?_) (fun c => ?_)
      · rw [if_pos c] at lt
        refine ⟨_, rfl, _, d3, ?_, ls ++ [(i : Int)], fun b o' e => ?_, ?_, ?_, ?_⟩
        · rw [List.length_map]
          exact small1000 (by omega)
        · rw [upd_ne (ne_of_none e hD)]
          exact s3 _ _ e
        · rw [upd_same, List.map_append]
          rfl
        · rw [List.length_append]
          show ls.length + 1 ≤ i + 1
          omega
        · rw [lt, List.getLast?_append]
          rfl
      · rw [if_neg c] at lt
        exact ⟨ls, s3, d3, by omega, by rw [lt]; exact g1⟩
    · rintro H1 ⟨ls, s1, d1, m1, g1⟩
      rw [List.length_map, List.take_of_length_le (Nat.le_refl _)] at g1
      exact fin H1 ls s1 d1 g1
  have last : ∀ (D : Addr) (H' : Hp) (ls : List Int), Same H H' → H' D = some (.lst (ls.map V.int)) → ls.getLast? = (lastP (frd ps who) row).map (fun k => (k : Int)) →
      (tRet (tIf (fun σ H Q => tVar 3 σ H fun x H1 => ∃ k, TruV K x H1 k ∧ Q k H1) (tOp (rIxL K) (tVar 3) (tUn (rU fun i => .int (-i)) (tC (.int 1)))) (tC .non))) { nx := fun _ H' => Q .non H', rt := Q } [some (.ref d), some (.ref r), some (.str who), some (.ref D), none, none] H' := by
    intro D H' ls s1 d1 g1
    refine ⟨.ref D, rfl, _, .inl ⟨_, .inl (.inl d1), rfl⟩, ite2 (fun c => ?_) (fun c => ?_)⟩
    · obtain ⟨z, hz⟩ : ∃ z, ls.getLast? = some z := by
        cases h : ls.getLast? with
        | some z => exact ⟨z, rfl⟩
        | none =>
          rw [List.getLast?_eq_none_iff.mp h] at c
          cases c
      obtain ⟨ys, hz'⟩ := List.getLast?_eq_some_iff.mp hz
      have ev : lfpV (lastP (frd ps who) row) = .int z := by
        rw [hz] at g1
        cases e : lastP (frd ps who) row with
        | none => rw [e] at g1; cases g1
        | some k =>
          rw [e] at g1
          have : z = (k : Int) := Option.some.inj g1
          rw [this]
          rfl
      refine ⟨.ref D, rfl, 1, rfl, D, _, -1, .int z, rfl, rfl, .inl (.inl d1), ?_, ?_⟩
      · rw [hz', List.map_append]
        exact atI_last _ _
      · rw [← ev]
        exact q H' s1
    · have e : lfpV (lastP (frd ps who) row) = .non := by
        cases h : lastP (frd ps who) row with
        | none => rfl
        | some k =>
          rw [h] at g1
          cases ls with
          | nil => cases g1
          | cons x r => exact absurd rfl c
      show Q .non H'
      rw [← e]
      exact q H' s1
  rcases hrow with e | e
  · refine .inr ⟨.ref r, rfl, r, _, rfl, e.sq, fun D hD => ?_⟩
    exact key _ _ walk_enumT (fun H' s => (e.same s).sq) D hD _ (fun H' ls s1 d1 g1 => last D H' ls s1 d1 g1)
  · refine .inl ⟨.ref r, rfl, r, _, rfl, .inl (.inl e), fun D hD => ?_⟩
    exact key _ _ walk_enum (fun H' s => .inl (.inl (s _ _ e))) D hD _ (fun H' ls s1 d1 g1 => last D H' ls s1 d1 g1)
/-! ### host_place, stood_in, let_in -/
abbrev sHostP : Stmt := topS 11
abbrev nHostP : List Str := ["known", "row", "who"]
theorem scHostP : FnScope nHostP nHostP (defScope sHostP) := ⟨rfl, rfl, rfl, by decide +kernel, rfl, by decide +kernel, by decide +kernel⟩
theorem ok_hostP {f : Addr} {fd : FuncData} (CL : Cal P w K mg base 1 "last_friend_place" ["known", "row", "who"] spLfp) (F : Fun K "host_place" "host_place" sHostP f fd) : FnOk P w K mg base CX0 2 f fd nHostP spHostP := by
  refine fok F scHostP (fun vs H Q E h => ?_) (fun cdv A outer s H vs Q E hr h => ?_)
  · obtain ⟨a, r, ps, row, who, rfl, _⟩ := h
    rfl
  obtain ⟨d, r, ps, row, who, rfl, hd, hrow, hn, nw, q⟩ := h
  refine ⟨_, pss_cons (ps_if (pt_cmpR op_in_seq (pv 2) (pv 1) (by rfl)) (pss_one ps_never) pss_nil)
    (pss_one (ps_ret (pe_cal CL hr (pa_cons (pv 0) (pa_cons (pv 1) (pa_cons (pv 2) pa_nil)))))), ?_⟩
  have sq : SqL K H r (row.map V.str) ∨ SqT K H r (row.map V.str) := hrow.elim (fun e => .inr e.sq) (fun e => .inl (.inl (.inl e)))
  refine ⟨_, rfl, .ref r, rfl, r, _, rfl, sq, rfl, flat_strs row, _, rfl, ?_⟩
  rw [inV_strs, decide_eq_false nw]
  exact ⟨_, rfl, _, rfl, _, rfl, d, r, ps, row, who, rfl, hd, hrow, hn, fun H2 s2 => q H2 s2⟩
def spComingP : Sp := fun vs H Q _ => ∃ (d r : Addr) (ps : List (Str × Str)) (row : List Str) (who : Str), vs = [.ref d, .ref r, .str who] ∧ KnAt H d ps ∧ RowAt H r row ∧ row.length ≤ 100 ∧ who ∉ row ∧
  ∀ H', Same H H' → Q (.int (spotOf ps row who : Nat)) H'
theorem spot_le (ps : List (Str × Str)) (row : List Str) (who : Str) : spotOf ps row who ≤ row.length := by
  unfold spotOf
  split
  · rename_i k ek
    exact lastP_lt ek
  · exact Nat.le_refl _
abbrev sComingP : Stmt := topS 12
abbrev nComingP : List Str := ["known", "row", "who", "place"]
theorem scComingP : FnScope nComingP nHostP (defScope sComingP) := ⟨rfl, rfl, rfl, by decide +kernel, rfl, by decide +kernel, by decide +kernel⟩
theorem ok_comingP {f : Addr} {fd : FuncData} (B : Blt mg) (CH : Cal P w K mg base 2 "host_place" nHostP spHostP) (F : Fun K "coming_place" "coming_place" sComingP f fd) : FnOk P w K mg base CX0 3 f fd nHostP spComingP := by
  refine fok F scComingP (fun vs H Q E h => ?_) (fun cdv A outer s H vs Q E hr h => ?_)
  · obtain ⟨a, r, ps, row, who, rfl, _⟩ := h
    rfl
  obtain ⟨a, r, ps, row, who, rfl, ha, hrow, hn, nw, q⟩ := h
  refine ⟨_, pss_cons (ps_set (i := 3) scComingP.nd rfl (.inl rfl) (pe_cal CH hr (pa_cons (pv 0) (pa_cons (pv 1) (pa_cons (pv 2) pa_nil)))))
    (pss_one (ps_ret (pe_ifExp (pt_cmp (pc_isN (pv 3))) (pe_callB call_len_seq (by rfl) B.len PySem.boot_len (pa_cons (pv 1) pa_nil)) (pe_op op_add (pv 3) pe_int)))), ?_⟩
  refine ⟨_, rfl, _, rfl, _, rfl, a, r, ps, row, who, rfl, ha, hrow, hn, nw, fun H1 s1 => ?_⟩
  have row1 := hrow.same s1
  refine ⟨_, rfl, _, rfl, ?_⟩
  have q1 := q H1 s1
  unfold spotOf at q1
  cases e : lastP (frd ps who) row with
  | none =>
    have sq : SqL K H1 r (row.map V.str) ∨ SqT K H1 r (row.map V.str) := row1.elim (fun e => .inr e.sq) (fun e => .inl (.inl (.inl e)))
    refine ⟨.ref r, rfl, r, _, rfl, sq, ?_⟩
    rw [List.length_map]
    rw [e] at q1
    exact q1
  | some k =>
    rw [e] at q1
    exact ⟨_, rfl, _, _, rfl, rfl, q1⟩
abbrev sStood : Stmt := topS 13
abbrev nStood : List Str := ["known", "row", "who", "at"]
theorem scStood : FnScope nStood nHostP (defScope sStood) := ⟨rfl, rfl, rfl, by decide +kernel, rfl, by decide +kernel, by decide +kernel⟩
theorem ok_stood {f : Addr} {fd : FuncData} (B : Blt mg) (CH : Cal P w K mg base 3 "coming_place" nHostP spComingP) (F : Fun K "stood_in" "stood_in" sStood f fd) : FnOk P w K mg base CX0 4 f fd nHostP spStood := by
  refine fok F scStood (fun vs H Q E h => ?_) (fun cdv A outer s H vs Q E hr h => ?_)
  · obtain ⟨a, r, ps, row, who, rfl, _⟩ := h
    rfl
  obtain ⟨a, r, ps, row, who, rfl, ha, hrow, hn, nw, q⟩ := h
  refine ⟨_, pss_cons (ps_set (i := 3) scStood.nd rfl (.inl rfl) (pe_cal CH hr (pa_cons (pv 0) (pa_cons (pv 1) (pa_cons (pv 2) pa_nil)))))
    (pss_one (ps_ret (pe_op op_catM (pe_op op_catM (pe_mid (pe_callTy call_tupleF (by rfl) B.tuple (by decide +kernel) (pa_cons (pe_slice (sl_or2 sl_list sl_tupM) (pv 1) po_none (po_some (pv 3))) pa_nil))) (pe_tupF (pa_cons (pv 2) pa_nil))) (pe_mid (pe_callTy call_tupleF (by rfl) B.tuple (by decide +kernel) (pa_cons (pe_slice (sl_or2 sl_list sl_tupM) (pv 1) (po_some (pv 3)) po_none) pa_nil)))))), ?_⟩
  refine ⟨_, rfl, _, rfl, _, rfl, a, r, ps, row, who, rfl, ha, hrow, hn, nw, fun H1 s1 => ?_⟩
  have row1 := hrow.same s1
  have hspot := spot_le ps row who
  refine ⟨fun v H2 => ∃ t, v = .ref t ∧ Same H1 H2 ∧ TupAt H2 t ((row.take (spotOf ps row who)).map V.str), ?_, ?_⟩
  · rcases row1 with e | e
    · refine ⟨.ref r, rfl, _, rfl, _, rfl, .inr ⟨r, _, rfl, e, fun t H2 s2 e2 => ?_⟩⟩
      rw [cutV_map, cutL_to] at e2
      exact ⟨t, _, rfl, .inr ⟨e2.sq, t, rfl, s2, e2⟩⟩
    · refine ⟨.ref r, rfl, _, rfl, _, rfl, .inl ⟨r, _, rfl, .inl (.inl e), fun p hp => ?_⟩⟩
      rw [cutV_map, cutL_to]
      exact ⟨p, _, rfl, .inl ⟨.inl (.inl upd_same), fun t H2 s2 n2 t2 => ⟨t, rfl, (same_upd hp).trans s2, t2⟩⟩⟩
  rintro v H2 ⟨t1, rfl, s2, e2⟩
  refine ⟨_, rfl, (by show 1 ≤ sizeLine; decide), fun p H3 s3 hp3 t3 => ?_⟩
  refine ⟨t1, p, _, _, rfl, rfl, e2.same s3, t3, ?_, fun t4 H4 s4 e4 => ?_⟩
  · rw [List.length_map, List.length_take]
    exact small_le (by show _ + 1 ≤ 1000; omega)
  have s24 := (s2.trans s3).trans s4
  have row4 := row1.same s24
  refine ⟨fun v H5 => ∃ t, v = .ref t ∧ Same H4 H5 ∧ TupAt H5 t ((row.drop (spotOf ps row who)).map V.str), ?_, ?_⟩
  · rcases row4 with e | e
    · refine ⟨.ref r, rfl, _, rfl, _, rfl, .inr ⟨r, _, rfl, e, fun t H5 s5 e5 => ?_⟩⟩
      rw [cutV_map, cutL_from] at e5
      exact ⟨t, _, rfl, .inr ⟨e5.sq, t, rfl, s5, e5⟩⟩
    · refine ⟨.ref r, rfl, _, rfl, _, rfl, .inl ⟨r, _, rfl, .inl (.inl e), fun p hp => ?_⟩⟩
      rw [cutV_map, cutL_from]
      exact ⟨p, _, rfl, .inl ⟨.inl (.inl upd_same), fun t H2 s2 n2 t2 => ⟨t, rfl, (same_upd hp).trans s2, t2⟩⟩⟩
  rintro v H5 ⟨t5, rfl, s5, e5⟩
  refine ⟨t4, t5, _, _, rfl, rfl, e4.same s5, e5, ?_, fun t6 H6 s6 e6 => ?_⟩
  · rw [List.length_append, List.length_map, List.length_map, List.length_take, List.length_drop]
    exact small_le (by show _ + 1 + _ ≤ 1000; omega)
  refine q t6 H6 ((s1.trans s24).trans (s5.trans s6)) ?_
  unfold comeTo
  rw [List.map_append, List.map_append]
  exact e6
/-! ### row_of, put_back -/
abbrev sRowOf : Stmt := topS 14
abbrev nRowOf : List Str := ["friends", "order", "known", "row", "who"]
theorem scRowOf : FnScope nRowOf ["friends", "order"] (defScope sRowOf) := ⟨rfl, rfl, rfl, by decide +kernel, rfl, by decide +kernel, by decide +kernel⟩
theorem ok_rowOf {f : Addr} {fd : FuncData} (CB : Cal P w K mg base 1 "both_ways" ["friends"] spBoth) (CE : Cal P w K mg base 4 "stood_in" ["known", "row", "who"] spStood) (F : Fun K "row_of" "row_of" sRowOf f fd) : FnOk P w K mg base CX0 5 f fd ["friends", "order"] spRowOf := by
  refine fok F scRowOf (fun vs H Q E h => ?_) (fun cdv A outer s H vs Q E hr h => ?_)
  · obtain ⟨a, o, ps, order, rfl, _⟩ := h
    rfl
  obtain ⟨a, o, ps, order, rfl, ha, hp, ho, hd, hn, q⟩ := h
  refine ⟨_, pss_cons (ps_set (i := 2) scRowOf.nd rfl (.inl rfl) (pe_cal CB hr (pa_cons (pv 0) pa_nil)))
    (pss_cons (ps_set (i := 3) scRowOf.nd rfl (.inl rfl) (pe_tupF pa_nil))
    (pss_cons (ps_for PassesOwn.never rfl (pi_or2 (pi_list (pv 1)) (pi_tup (pv 1))) (pg_name (i := 4) scRowOf.nd rfl (.inl rfl))
      (pss_one (ps_set (i := 3) scRowOf.nd rfl (.inl rfl) (pe_cal CE hr (pa_cons (pv 2) (pa_cons (pv 3) (pa_cons (pv 4) pa_nil)))))))
    (pss_one (ps_ret (pv 3))))), ?_⟩
  refine ⟨_, rfl, a, ps, rfl, ha, hp, fun dd Hk sk ndk kk => ?_⟩
  refine ⟨(by show 0 ≤ sizeLine; decide), fun p H0 s0' hp0 t0 => ?_⟩
  have s0 := sk.trans s0'
  have turn : ∀ (i : Nat) (x : Str) (σ : L2.St) (H1 : Hp), order[i]? = some x → (∃ (t : Addr) (y3 : Option V), σ = [some (.ref a), some (.ref o), some (.ref dd), some (.ref t), y3] ∧ Same H H1 ∧ KnAt H1 dd ps ∧ TupAt H1 t ((standOf ps (order.take i)).map V.str)) → ∀ (D : Ends), D.nx = (fun σ H1 => ∃ (t : Addr) (y3 : Option V), σ = [some (.ref a), some (.ref o), some (.ref dd), some (.ref t), y3] ∧ Same H H1 ∧ KnAt H1 dd ps ∧ TupAt H1 t ((standOf ps (order.take (i + 1))).map V.str)) →
      (tAsg (tCall spStood [] E0 (tCons (tVar 2) (tCons (tVar 3) (tCons (tVar 4) tNil)))) (gName 3)) D (σ.set 4 (some (.str x))) H1 := by
    rintro i x σ H1 hx ⟨t, y3, rfl, s1, k1, e1⟩ D hD
    have pm := stand_perm ps (order.take i)
    have nx : x ∉ standOf ps (order.take i) := fun z => by
      have z := pm.mem_iff.mp z
      obtain ⟨j, hj⟩ := List.mem_iff_getElem?.mp z
      rw [List.getElem?_take] at hj
      split at hj
      · rename_i c
        have := nd_ix hd hj hx
        omega
      · cases hj
    refine ⟨_, rfl, _, rfl, _, rfl, dd, t, ps, _, x, rfl, k1, .inl e1, ?_, nx, fun t' H3 s3 e3 => ?_⟩
    · rw [pm.length_eq, List.length_take]
      omega
    · rw [hD]
      refine ⟨t', _, rfl, s1.trans s3, k1.same s3, ?_⟩
      rw [List.take_add_one, hx]
      show TupAt H3 t' ((standOf ps (order.take i ++ [x])).map V.str)
      rw [standOf_app]
      exact e3
  have fin : ∀ (σ : L2.St) (H1 : Hp), (∃ (t : Addr) (y3 : Option V), σ = [some (.ref a), some (.ref o), some (.ref dd), some (.ref t), y3] ∧ Same H H1 ∧ KnAt H1 dd ps ∧ TupAt H1 t ((standOf ps (order.take (order.map V.str).length)).map V.str)) → ∃ v, σ[3]? = some (some v) ∧ Q v H1 := by
    rintro σ H1 ⟨t, y3, rfl, s1, _, e1⟩
    rw [List.length_map, List.take_of_length_le (Nat.le_refl _)] at e1
    exact ⟨.ref t, rfl, q t H1 s1 e1⟩
  rcases ho with e | e
  · refine .inr ⟨.ref o, rfl, o, rfl, ⟨_, (e.same s0).sq⟩, ?_⟩
    refine for_it (walk_tup (xs := order.map V.str)) (fun i σ H1 => ∃ (t : Addr) (y3 : Option V), σ = [some (.ref a), some (.ref o), some (.ref dd), some (.ref t), y3] ∧ Same H H1 ∧ KnAt H1 dd ps ∧ TupAt H1 t ((standOf ps (order.take i)).map V.str)) ?_ ?_ ?_ ?_
    · exact ⟨p, _, rfl, s0, kk.same s0', t0⟩
    · rintro i σ H1 _ ⟨t, y3, _, s1, _, _⟩
      exact (e.same s1).sq
    · rintro i v σ H2 H1 hi pv ⟨rfl, e2⟩
      obtain ⟨x, hx, rfl⟩ := at_map e2
      exact turn i x σ _ hx pv _ rfl
    · exact fin
  · refine .inl ⟨.ref o, rfl, o, rfl, ⟨_, .inl (.inl (s0 _ _ e))⟩, ?_⟩
    refine for_it (walk_list (xs := order.map V.str)) (fun i σ H1 => ∃ (t : Addr) (y3 : Option V), σ = [some (.ref a), some (.ref o), some (.ref dd), some (.ref t), y3] ∧ Same H H1 ∧ KnAt H1 dd ps ∧ TupAt H1 t ((standOf ps (order.take i)).map V.str)) ?_ ?_ ?_ ?_
    · exact ⟨p, _, rfl, s0, kk.same s0', t0⟩
    · rintro i σ H1 _ ⟨t, y3, _, s1, _, _⟩
      exact .inl (.inl (s1 _ _ e))
    · rintro i v σ H2 H1 hi pv ⟨rfl, e2⟩
      obtain ⟨x, hx, rfl⟩ := at_map e2
      exact turn i x σ _ hx pv _ rfl
    · exact fin
/-! ### bar_words, bars -/
abbrev sBarW : Stmt := topS 7
abbrev nBarW : List Str := ["known", "row", "one", "other", "place", "there", "host", "words"]
theorem scBarW : FnScope nBarW ["known", "row", "one", "other"] (defScope sBarW) := ⟨rfl, rfl, rfl, by decide +kernel, rfl, by decide +kernel, by decide +kernel⟩
theorem ok_barWX {f : Addr} {fd : FuncData} (CL : Cal P w K mg base 1 "last_friend_place" ["known", "row", "who"] spLfp) (F : Fun K "bar_words" "bar_words" sBarW f fd) : FnOk P w K mg base CX0 2 f fd ["known", "row", "one", "other"] spBarWX := by
  refine fok F scBarW (fun vs H Q E h => ?_) (fun cdv A outer s H vs Q E hr h => ?_)
  · obtain ⟨d, r, ps, row, one, other, rfl, _⟩ := h
    rfl
  obtain ⟨d, r, ps, row, one, other, rfl, hd, hrow, hn, nd, q⟩ := h
  have hu := hu_of hr
  refine ⟨_, pss_cons (ps_if (PW.pt (pw_or (pt_cmpR op_notIn_seq (pv 2) (pv 1) (by rfl)) (pw_or1 (pt_cmpR op_notIn_seq (pv 3) (pv 1) (by rfl))))) (pss_one (ps_ret (pe_lst pa_nil))) pss_nil)
    (pss_cons (ps_set (i := 4) scBarW.nd rfl (.inl rfl) (pe_mid (pe_or2 (pe_bm PySem.F.plainAttrs_list PySem.F.slot_list_index PySem.F.type_list_index mt_idxL (pv 1) (pa_cons (pv 2) pa_nil)) (pe_bmT PySem.F.slot_tuple_index PySem.F.type_tuple_index mt_tup_index (pv 1) (pa_cons (pv 2) pa_nil)))))
    (pss_cons (ps_set (i := 5) scBarW.nd rfl (.inl rfl) (pe_mid (pe_or2 (pe_bm PySem.F.plainAttrs_list PySem.F.slot_list_index PySem.F.type_list_index mt_idxL (pv 1) (pa_cons (pv 3) pa_nil)) (pe_bmT PySem.F.slot_tuple_index PySem.F.type_tuple_index mt_tup_index (pv 1) (pa_cons (pv 3) pa_nil)))))
    (pss_cons (ps_set (i := 6) scBarW.nd rfl (.inl rfl) (pe_cal CL hr (pa_cons (pv 0) (pa_cons (pe_mid (pe_slice (sl_or2 sl_list sl_tupM) (pv 1) po_none (po_some (pv 4)))) (pa_cons (pv 2) pa_nil)))))
    (pss_cons (ps_set (i := 7) scBarW.nd rfl (.inl rfl) (pe_lst pa_nil))
    (pss_cons (ps_mid (ps_if (pt_mid (PW.pt (pw_and (pt_cmp (pc_isN (pv 6))) (pw_and1 (pt_cmpR op_lt (pv 4) (pv 5) (nomark _)))))) (pss_one (ps_expr (pe_bm PySem.F.plainAttrs_list PySem.F.slot_list_append PySem.F.type_list_append mt_append (pv 7) (pa_cons pe_str pa_nil)))) pss_nil))
    (pss_cons (ps_mid (ps_if (pt_mid (PW.pt (pw_and (pt_cmp (pc_notN (pv 6))) (pw_and1 (pt_chain op_lt op_lt (pv 6) (pv 5) (pv 4)))))) (pss_one (ps_expr (pe_bm PySem.F.plainAttrs_list PySem.F.slot_list_append PySem.F.type_list_append mt_append (pv 7) (pa_cons pe_str pa_nil)))) pss_nil))
    (pss_cons (ps_mid (ps_if (pt_mid (PW.pt (pw_and (pt_cmpR op_lt (pv 4) (pv 5) (nomark _)) (pw_and1 (pt_cmp (pc_din hu (pe_tup (pa_cons (pv 2) (pa_cons (pv 3) pa_nil))) (pv 0))))))) (pss_one (ps_expr (pe_bm PySem.F.plainAttrs_list PySem.F.slot_list_append PySem.F.type_list_append mt_append (pv 7) (pa_cons pe_str pa_nil)))) pss_nil))
    (pss_one (ps_ret (pv 7)))))))))), ?_⟩
  have sq : SqL K H r (row.map V.str) ∨ SqT K H r (row.map V.str) := hrow.elim (fun e => .inr e.sq) (fun e => .inl (.inl (.inl e)))
  refine ⟨.str one, rfl, .ref r, rfl, r, _, rfl, sq, rfl, flat_strs row, _, rfl, ?_⟩
  rw [inV_strs]
  by_cases m1 : one ∈ row
  rotate_left
  · rw [decide_eq_false m1]
    refine ⟨(by show 0 ≤ sizeLine; decide), fun p hp => q p _ (same_upd hp) hp ?_⟩
    rw [show wordsX ps row one other = [] from if_neg fun h => m1 h.1]
    exact upd_same
  rw [decide_eq_true m1]
  refine ⟨.str other, rfl, .ref r, rfl, r, _, rfl, sq, rfl, flat_strs row, _, rfl, ?_⟩
  rw [inV_strs]
  by_cases m2 : other ∈ row
  rotate_left
  · rw [decide_eq_false m2]
    refine ⟨(by show 0 ≤ sizeLine; decide), fun p hp => q p _ (same_upd hp) hp ?_⟩
    rw [show wordsX ps row one other = [] from if_neg fun h => m2 h.2]
    exact upd_same
  rw [decide_eq_true m2]
  rw [wordsX_eq m1 m2] at q
  have hi := ix_at m1
  have hj := ix_at m2
  generalize row.idxOf one = i at hi q
  generalize row.idxOf other = j at hj q
  -- place, there
  refine ⟨fun v H' => v = .int (i : Nat) ∧ H' = H, ?_, ?_⟩
  · rcases hrow with e | e
    · exact .inr ⟨.ref r, rfl, ⟨r, _, rfl, e⟩, _, rfl, r, row, one, i, rfl, rfl, e.sq, hi, nd_first nd hi, rfl, rfl⟩
    · exact .inl ⟨.ref r, rfl, .inl ⟨rfl, _, .inl (.inl e)⟩, _, rfl, r, row, one, i, rfl, rfl, e, hi, nd_first nd hi, rfl, rfl⟩
  rintro v H' ⟨rfl, rfl⟩
  refine ⟨fun v H'' => v = .int (j : Nat) ∧ H'' = H', ?_, ?_⟩
  · rcases hrow with e | e
    · exact .inr ⟨.ref r, rfl, ⟨r, _, rfl, e⟩, _, rfl, r, row, other, j, rfl, rfl, e.sq, hj, nd_first nd hj, rfl, rfl⟩
    · exact .inl ⟨.ref r, rfl, .inl ⟨rfl, _, .inl (.inl e)⟩, _, rfl, r, row, other, j, rfl, rfl, e, hj, nd_first nd hj, rfl, rfl⟩
  rintro v H ⟨rfl, rfl⟩
  -- host
  refine ⟨.ref d, rfl, fun v H' => ∃ r', v = .ref r' ∧ Same H H' ∧ RowAt H' r' (row.take i), ?_, ?_⟩
  · rcases hrow with e | e
    · refine ⟨.ref r, rfl, _, rfl, _, rfl, .inr ⟨r, _, rfl, e, fun t H' s1 e1 => ⟨t, rfl, s1, .inl ?_⟩⟩⟩
      rw [cutV_map, cutL_to] at e1
      exact e1
    · refine ⟨.ref r, rfl, _, rfl, _, rfl, .inl ⟨r, _, rfl, .inl (.inl e), fun p hp => ⟨p, rfl, same_upd hp, .inr ?_⟩⟩⟩
      rw [cutV_map, cutL_to]
      exact upd_same
  rintro v H1 ⟨r', rfl, s1, e1⟩
  refine ⟨.str one, rfl, d, r', ps, row.take i, one, rfl, hd.same s1, e1, (by rw [List.length_take]; omega), fun H2 s2 => ?_⟩
  have d2 := hd.same (s1.trans s2)
  generalize hh : lastP (frd ps one) (row.take i) = host
  -- words
  refine ⟨(by show 0 ≤ sizeLine; decide), fun p hp => ?_⟩
  have np : H p = none := (s1.trans s2).free hp
  have s3 := (s1.trans s2).trans (same_upd (o := .lst []) hp)
  -- one more word, or none
  have app : ∀ (H3 : Hp) (acc : List Str) (c b : Bool) (w : Str) (D : Ends), Same H H3 → H3 p = some (.lst (acc.map V.str)) → acc.length ≤ 10 → b = c → D.nx = (fun σ' H' => σ' = [some (.ref d), some (.ref r), some (.str one), some (.str other), some (.int (i : Nat)), some (.int (j : Nat)), some (lfpV host), some (.ref p)] ∧ Same H H' ∧ H' p = some (.lst ((acc ++ optW c w).map V.str))) →
      if b = true then (tDrop (tBM K "list" rAppend (tVar 7) (tCons (tC (.str w)) tNil))) D [some (.ref d), some (.ref r), some (.str one), some (.str other), some (.int (i : Nat)), some (.int (j : Nat)), some (lfpV host), some (.ref p)] H3 else tNext D [some (.ref d), some (.ref r), some (.str one), some (.str other), some (.int (i : Nat)), some (.int (j : Nat)), some (lfpV host), some (.ref p)] H3 := by
    rintro H3 acc c b w D s e al rfl hD
    refine ite2 (fun z => ?_) (fun z => ?_)
    · refine ⟨.ref p, rfl, .inl ⟨rfl, _, .inl (.inl e)⟩, p, _, _, rfl, rfl, e, (by rw [List.length_map]; exact small1000 (by omega)), ?_⟩
      rw [hD]
      refine ⟨rfl, fun b o e' => ?_, ?_⟩
      · rw [upd_ne (ne_of_none e' np)]
        exact s _ _ e'
      · rw [upd_same, optW, if_pos z, List.map_append]
        rfl
    · show D.nx _ _
      rw [hD]
      refine ⟨rfl, s, ?_⟩
      rw [optW, if_neg z, List.append_nil]
      exact e
  have oneL : ∀ (c : Bool) (w : Str), (optW c w).length ≤ 1 := fun c w => by
    unfold optW
    split
    · exact Nat.le_refl _
    · exact Nat.zero_le _
  have isN : decide (lfpV host = .non) = decide (host = none) := by
    cases host <;> rfl
  -- behind
  refine ⟨fun σ' H' => σ' = [some (.ref d), some (.ref r), some (.str one), some (.str other), some (.int (i : Nat)), some (.int (j : Nat)), some (lfpV host), some (.ref p)] ∧ Same H H' ∧ H' p = some (.lst (([] ++ optW (decide (host = none) && decide (i < j)) "behind").map V.str)), ?_, ?_⟩
  · refine ⟨fun b H' => b = (decide (host = none) && decide (i < j)) ∧ H' = upd H2 p (.lst []), ?_, ?_⟩
    · refine ⟨_, rfl, _, rfl, ?_⟩
      rw [isN]
      refine ite2 (fun z => ?_) (fun z => ?_)
      · refine ⟨_, rfl, _, rfl, _, _, rfl, rfl, _, rfl, ?_, rfl⟩
        rw [z, Bool.true_and]
        exact decide_eq_decide.mpr (by omega)
      · refine ⟨?_, rfl⟩
        rw [Bool.eq_false_iff.mpr z, Bool.false_and]
    · rintro b H' ⟨eb, rfl⟩
      exact app _ [] _ b "behind" _ s3 upd_same (Nat.zero_le _) eb rfl
  rintro σ4 H4 ⟨rfl, s4, e4⟩
  rw [List.nil_append] at e4
  have l4 := oneL (decide (host = none) && decide (i < j)) "behind"
  -- between
  refine ⟨fun σ' H' => σ' = [some (.ref d), some (.ref r), some (.str one), some (.str other), some (.int (i : Nat)), some (.int (j : Nat)), some (lfpV host), some (.ref p)] ∧ Same H H' ∧ H' p = some (.lst ((optW (decide (host = none) && decide (i < j)) "behind" ++ optW (btw i j host) "between").map V.str)), ?_, ?_⟩
  · refine ⟨fun b H' => b = (btw i j host) ∧ H' = H4, ?_, ?_⟩
    · refine ⟨_, rfl, _, rfl, ?_⟩
      rw [isN]
      cases host with
      | none => exact ⟨rfl, rfl⟩
      | some k =>
        refine ⟨_, rfl, _, rfl, _, _, rfl, rfl, _, rfl, ite2 (fun z => ?_) (fun z => ?_)⟩
        · refine ⟨_, rfl, _, _, rfl, rfl, _, rfl, ?_, rfl⟩
          have z1 := of_decide_eq_true z
          show _ = (decide (k < j) && decide (j < i))
          rw [decide_eq_true (show k < j by omega), Bool.true_and]
          exact decide_eq_decide.mpr (by omega)
        · refine ⟨_, rfl, ?_, rfl⟩
          have z1 := of_decide_eq_false (Bool.eq_false_iff.mpr z)
          show _ = (decide (k < j) && decide (j < i))
          rw [decide_eq_false (show ¬ k < j by omega), Bool.false_and]
    · rintro b H' ⟨eb, rfl⟩
      exact app _ _ _ b "between" _ s4 e4 (by omega) eb rfl
  rintro σ5 H5 ⟨rfl, s5, e5⟩
  have l5 := oneL (btw i j host) "between"
  -- friend
  refine ⟨fun σ' H' => σ' = [some (.ref d), some (.ref r), some (.str one), some (.str other), some (.int (i : Nat)), some (.int (j : Nat)), some (lfpV host), some (.ref p)] ∧ Same H H' ∧ H' p = some (.lst (((optW (decide (host = none) && decide (i < j)) "behind" ++ optW (btw i j host) "between") ++ optW (decide (i < j) && frd ps one other) "friend").map V.str)), ?_, ?_⟩
  · refine ⟨fun b H' => b = (decide (i < j) && frd ps one other) ∧ Same H H' ∧ H' p = H5 p, ?_, ?_⟩
    · refine ⟨_, rfl, _, rfl, _, _, rfl, rfl, _, rfl, ite2 (fun z => ?_) (fun z => ?_)⟩
      · have z1 := of_decide_eq_true z
        refine ⟨_, rfl, _, rfl, (by show 2 ≤ sizeLine; decide), fun t ht => ?_⟩
        have s6 := s5.trans (same_upd (o := .tup [.str one, .str other]) ht)
        obtain ⟨kvs, k1, k3⟩ := hd.same s6
        refine ⟨.ref d, rfl, d, _, rfl, DGet.t (k := k2 one other) k1 upd_same, _, rfl, ?_, s6, upd_ne (ne_of_none e5 ht)⟩
        rw [k3, decide_eq_true (show i < j by omega), Bool.true_and]
      · have z1 := of_decide_eq_false (Bool.eq_false_iff.mpr z)
        refine ⟨?_, s5, rfl⟩
        rw [decide_eq_false (show ¬ i < j by omega), Bool.false_and]
    · rintro b H' ⟨eb, s6, e6⟩
      exact app _ _ _ b "friend" _ s6 (e6.trans e5) (by rw [List.length_append]; omega) eb rfl
  rintro σ6 H6 ⟨rfl, s6, e6⟩
  refine ⟨.ref p, rfl, q p H6 s6 np ?_⟩
  rw [e6, wordsOf, hh]/-! ### loose_at, is_loose, loose_in -/
abbrev sLooseAt : Stmt := topS 23
abbrev nLooseAt : List Str := ["known", "row", "place", "last"]
theorem scLooseAt : FnScope nLooseAt ["known", "row", "place"] (defScope sLooseAt) := ⟨rfl, rfl, rfl, by decide +kernel, rfl, by decide +kernel, by decide +kernel⟩
theorem ok_looseAt {f : Addr} {fd : FuncData} (B : Blt mg) (CL : Cal P w K mg base 1 "last_friend_place" ["known", "row", "who"] spLfp) (F : Fun K "loose_at" "loose_at" sLooseAt f fd) : FnOk P w K mg base CX0 2 f fd ["known", "row", "place"] spLooseAt := by
  refine fok F scLooseAt (fun vs H Q E h => ?_) (fun cdv A outer s H vs Q E hr h => ?_)
  · obtain ⟨d, r, ps, row, x, i, rfl, _⟩ := h
    rfl
  obtain ⟨d, r, ps, row, x, i, rfl, hd, hrow, hn, hi, q⟩ := h
  refine ⟨_, pss_cons (ps_set (i := 3) scLooseAt.nd rfl (.inl rfl) (pe_cal CL hr (pa_cons (pv 0) (pa_cons (pv 1) (pa_cons (pe_ix ix_seq (pv 1) (pv 2) (fun _ _ => rfl)) pa_nil)))))
    (pss_cons (ps_if (pt_cmp (pc_isN (pv 3))) (pss_one (ps_ret (pe_cmpR op_eq (pv 2) (pe_op op_sub (pe_callB call_len_seq (by rfl) B.len PySem.boot_len (pa_cons (pv 1) pa_nil)) pe_int) (nomark _)))) pss_nil)
    (pss_one (ps_ret (pe_cmpR op_eq (pv 3) (pe_op op_sub (pv 2) pe_int) (nomark _))))), ?_⟩
  have hlt : i < row.length := (List.getElem?_eq_some_iff.mp hi).1
  have fin : ∀ H2, Same H H2 → (tSeq (tIfS (tB (tIsN (tVar 3))) (tRet (tOp rEq (tVar 2) (tOp (rI0 fun i j => .int (i - j)) (tCB (fun xs H Q => ∃ p ys, xs = [.ref p] ∧ (SqL K H p ys ∨ SqT K H p ys) ∧ Q (.int ys.length) H) (tCons (tVar 1) tNil)) (tC (.int 1))))) tNext) (tRet (tOp rEq (tVar 3) (tOp (rI0 fun i j => .int (i - j)) (tVar 2) (tC (.int 1)))))) { nx := fun _ H' => Q .non H', rt := Q } [some (.ref d), some (.ref r), some (.int (i : Nat)), some (lfpV (lastP (frd ps x) row))] H2 := by
    intro H2 s2
    have q2 := q H2 s2
    unfold looseB at q2
    refine ⟨_, rfl, _, rfl, ?_⟩
    cases e : lastP (frd ps x) row with
    | none =>
      rw [e] at q2
      have sq : SqL K H2 r (row.map V.str) ∨ SqT K H2 r (row.map V.str) := (hrow.same s2).elim (fun e => .inr e.sq) (fun e => .inl (.inl (.inl e)))
      refine ⟨_, rfl, .ref r, rfl, r, _, rfl, sq, _, _, rfl, rfl, rfl, ?_⟩
      have ed : decide (V.int (i : Int) = V.int ((((row.map V.str).length : Nat) : Int) - 1)) = decide (i + 1 = row.length) := by
        rw [List.length_map]
        refine decide_eq_decide.mpr ⟨fun z => ?_, fun z => congrArg V.int (by omega)⟩
        have := V.int.inj z
        omega
      rw [ed]
      exact q2
    | some k =>
      rw [e] at q2
      refine ⟨_, rfl, _, rfl, _, _, rfl, rfl, rfl, ?_⟩
      have ed : decide (V.int (k : Int) = V.int ((i : Int) - 1)) = decide (k + 1 = i) := by
        refine decide_eq_decide.mpr ⟨fun z => ?_, fun z => congrArg V.int (by omega)⟩
        have := V.int.inj z
        omega
      show Q (.bl (decide (V.int (k : Int) = V.int ((i : Int) - 1)))) H2
      rw [ed]
      exact q2
  refine ⟨_, rfl, .ref r, rfl, .ref r, rfl, _, rfl, ?_⟩
  rcases hrow with e | e
  · refine .inr (.inl ⟨r, _, i, .str x, rfl, rfl, e.sq, atI_nat (ix_map hi), d, r, ps, row, x, rfl, hd, .inl e, hn, fun H2 s2 => fin H2 s2⟩)
  · refine .inl ⟨r, _, i, .str x, rfl, rfl, .inl (.inl e), atI_nat (ix_map hi), d, r, ps, row, x, rfl, hd, .inr e, hn, fun H2 s2 => fin H2 s2⟩
/-! ### hindmost_loose, gone_and_left, goers, left_over -/
abbrev sHind : Stmt := topS 24
abbrev nHind : List Str := ["known", "row", "but", "place"]
theorem scHind : FnScope nHind ["known", "row", "but"] (defScope sHind) := ⟨rfl, rfl, rfl, by decide +kernel, rfl, by decide +kernel, by decide +kernel⟩
theorem ok_hind {f : Addr} {fd : FuncData} (B : Blt mg) (CL : Cal P w K mg base 2 "loose_at" ["known", "row", "place"] spLooseAt) (F : Fun K "hindmost_loose" "hindmost_loose" sHind f fd) : FnOk P w K mg base CX0 3 f fd ["known", "row", "but"] (spHind K) := by
  refine fok F scHind (fun vs H Q E h => ?_) (fun cdv A outer s H vs Q E hr h => ?_)
  · obtain ⟨d, r, p, ps, row, stay, rfl, _⟩ := h
    rfl
  obtain ⟨d, r, p, ps, row, stay, rfl, hd, e, hn, hb, q⟩ := h
  refine ⟨_, pss_cons (ps_for PassesOwn.never rfl (pi_range3 (by rfl) B.range (pa_cons (pe_op op_sub (pe_callB call_len_seq (by rfl) B.len PySem.boot_len (pa_cons (pv 1) pa_nil)) pe_int) (pa_cons (pe_un un_neg pe_int) (pa_cons (pe_un un_neg pe_int) pa_nil)))) (pg_name (i := 3) scHind.nd rfl (.inl rfl))
      (pss_one (ps_if (PW.pt (pw_and (pt_cmpR op_notIn_seq (pe_ix ix_list (pv 1) (pv 3) (fun _ _ => rfl)) (pv 2) (by rfl)) (pw_and1 (pt_val (pe_cal CL hr (pa_cons (pv 0) (pa_cons (pv 1) (pa_cons (pv 3) pa_nil)))))))) (pss_one (ps_ret (pv 3))) pss_nil)))
    (pss_one (ps_ret pe_non)), ?_⟩
  refine ⟨.ref r, rfl, r, _, rfl, .inl (.inl (.inl e)), _, _, rfl, rfl, 1, rfl, 1, rfl, _, _, _, _, rfl, RgC.neg ?_ ?_ (by decide) (by decide), ?_⟩
  · rw [List.length_map]
    omega
  · rw [List.length_map]
    omega
  rw [List.length_map]
  refine for_it (walk_rangeC (lo := (row.length : Int) - 1) (c := -1) (n := ((row.length : Int) - 1 - -1).toNat)) (fun k σ H' => ∃ (y3 : Option V), σ = [some (.ref d), some (.ref r), some (.ref p), y3] ∧ Same H H' ∧ someTo ps stay row (row.length - k) = someL ps stay row) ?_ (fun _ _ _ _ _ => trivial) ?_ ?_
  · exact ⟨_, rfl, Same.refl H, by rw [Nat.sub_zero, someTo_all]⟩
  · rintro k x σ H2 H1 hk ⟨y3, rfl, s1, g1⟩ ⟨rfl, rfl⟩
    have hk' : k < row.length := by omega
    obtain ⟨x, hx⟩ : ∃ x, row[row.length - 1 - k]? = some x := ⟨row[row.length - 1 - k]'(by omega), List.getElem?_eq_getElem _⟩
    have ei : ((row.length : Int) - 1 + (k : Int) * -1) = ((row.length - 1 - k : Nat) : Int) := by omega
    rw [show ((fun i : Nat => V.int ((row.length : Int) - 1 + (i : Int) * -1)) k) = V.int ((row.length - 1 - k : Nat) : Int) from congrArg V.int ei]
    have st := someTo_step (ps := ps) (stay := stay) hx
    rw [show row.length - 1 - k + 1 = row.length - k by omega, g1] at st
    have e1 := s1 _ _ e
    refine ⟨.ref r, rfl, _, rfl, r, _, _, .str x, rfl, rfl, .inl (.inl e1), atI_nat (ix_map hx), .ref p, rfl, p, _, rfl, hb _ s1, rfl, flat_strs _, _, rfl, ?_⟩
    rw [inV_strs]
    refine ite2 (fun c => ?_) (fun c => ?_)
    · have c' : (!decide (x ∈ stay)) = true := c
      refine ⟨_, rfl, _, rfl, _, rfl, d, r, ps, row, x, row.length - 1 - k, rfl, hd.same s1, .inr e1, hn, hx, fun H2 s2 => ⟨_, rfl, ?_⟩⟩
      refine ite2 (fun c2 => ?_) (fun c2 => ?_)
      · refine ⟨_, rfl, q _ H2 (s1.trans s2) ?_⟩
        rw [if_pos (by rw [c', c2]; rfl)] at st
        rw [st, List.getLast?_append]
        exact ⟨_, rfl, hx⟩
      · rw [if_neg (by rw [c', Bool.true_and]; exact c2), List.append_nil] at st
        exact ⟨_, rfl, s1.trans s2, by rw [show row.length - (k + 1) = row.length - 1 - k by omega]; exact st.symm⟩
    · have c' : ¬ (!decide (x ∈ stay)) = true := c
      rw [if_neg (by intro z; exact c' ((Bool.and_eq_true _ _ ▸ z).1)), List.append_nil] at st
      exact ⟨_, rfl, s1, by rw [show row.length - (k + 1) = row.length - 1 - k by omega]; exact st.symm⟩
  · rintro σ H1 ⟨y3, rfl, s1, g1⟩
    refine q _ H1 s1 ?_
    rw [← g1, show row.length - ((row.length : Int) - 1 - -1).toNat = 0 by omega]
    rfl
abbrev sStayed : Stmt := topS 25
abbrev nStayed : List Str := ["known", "row", "but", "left", "gone", "place"]
theorem scStayed : FnScope nStayed ["known", "row", "but"] (defScope sStayed) := ⟨rfl, rfl, rfl, by decide +kernel, rfl, by decide +kernel, by decide +kernel⟩
theorem ok_stayed {f : Addr} {fd : FuncData} (B : Blt mg) (CH : Cal P w K mg base 3 "hindmost_loose" ["known", "row", "but"] (spHind K)) (F : Fun K "gone_and_stayed" "gone_and_stayed" sStayed f fd) : FnOk P w K mg base CX0 4 f fd ["known", "row", "but"] (spStayed K) := by
  refine fok F scStayed (fun vs H Q E h => ?_) (fun cdv A outer s H vs Q E hr h => ?_)
  · obtain ⟨a, r, p, ps, row, stay, rfl, _⟩ := h
    rfl
  obtain ⟨d, r, p, ps, row, stay, rfl, k1, hrow, hd, hn, hb, q⟩ := h
  have h1 : Room 1 _ := hr.mono (by decide)
  refine ⟨_, (pss_cons (ps_set (i := 3) scStayed.nd rfl (.inl rfl) (pe_callTy call_list_of (by rfl) B.list (by decide +kernel) (pa_cons (pv 1) pa_nil)))
    (pss_cons (ps_set (i := 4) scStayed.nd rfl (.inl rfl) (pe_lst pa_nil))
    (pss_cons (ps_set (i := 5) scStayed.nd rfl (.inl rfl) (pe_cal CH hr (pa_cons (pv 0) (pa_cons (pv 3) (pa_cons (pv 2) pa_nil)))))
    (pss_cons (ps_while PassesOwn.never (pt_cmp (pc_notN (pv 5)))
      (pss_cons (ps_expr (pe_bm PySem.F.plainAttrs_list PySem.F.slot_list_append PySem.F.type_list_append mt_append (pv 4) (pa_cons (pe_bm PySem.F.plainAttrs_list PySem.F.slot_list_pop PySem.F.type_list_pop mt_popAt (pv 3) (pa_cons (pv 5) pa_nil)) pa_nil)))
      (pss_one (ps_set (i := 5) scStayed.nd rfl (.inl rfl) (pe_cal CH hr (pa_cons (pv 0) (pa_cons (pv 3) (pa_cons (pv 2) pa_nil))))))))
    (pss_one (ps_ret (pe_tup (pa_cons (pv 4) (pa_cons (pe_callTy call_tupleF (by rfl) B.tuple (by decide +kernel) (pa_cons (pv 3) pa_nil)) pa_nil))))))))), ?_⟩
  have sq : SqL K H r (row.map V.str) ∨ SqT K H r (row.map V.str) := hrow.elim (fun e => .inr e.sq) (fun e => .inl (.inl (.inl e)))
  refine ⟨.ref r, rfl, r, _, rfl, sq, fun le hle => ?_⟩
  have s2 := same_upd (o := .lst (row.map V.str)) hle
  refine ⟨(by show 0 ≤ sizeLine; decide), fun go hgo => ?_⟩
  have s3 := same_upd (o := .lst []) hgo
  have ngl : le ≠ go := fun z => by rw [← z, upd_same] at hgo; cases hgo
  have hle0 : H le = none := hle
  have hgo0 : H go = none := s2.free hgo
  have l3 : upd (upd H le (.lst (row.map V.str))) go (.lst []) le = some (.lst (row.map V.str)) := s3 _ _ upd_same
  have s03 := s2.trans s3
  refine ⟨_, rfl, _, rfl, _, rfl, d, le, p, ps, row, stay, rfl, (k1.same s2).same s3, l3, hn, (fun H' s => hb H' (s03.trans s)), fun v H4 s4 hv => ?_⟩
  refine while_by (fun σ H' => ∃ (acc cur : List Str) (v : V), σ = [some (.ref d), some (.ref r), some (.ref p), some (.ref le), some (.ref go), some v] ∧ Same H H' ∧ KnAt H' d ps ∧ H' le = some (.lst (cur.map V.str)) ∧ H' go = some (.lst (acc.map V.str)) ∧ cur.Nodup ∧ acc.length + cur.length = row.length ∧ hindV cur (someL ps stay cur).getLast? v ∧ acc ++ goneO ps stay cur = goneO ps stay row ∧ goneR ps stay cur = goneR ps stay row)
    (fun σ H' => match H' le with | some (.lst xs) => xs.length | _ => 0) ?_ ?_ ?_
  · exact ⟨[], row, v, rfl, s03.trans s4, ((k1.same s2).same s3).same s4, s4 _ _ l3, s4 _ _ upd_same, hd, Nat.zero_add _, hv, rfl, rfl⟩
  · rintro σ H5 ⟨acc, cur, v, rfl, s5, k5, l5, g5, d5, n5, v5, a5, r5⟩
    refine ⟨_, rfl, ?_⟩
    cases e : (someL ps stay cur).getLast? with
    | none =>
      rw [e] at v5
      have v5' : v = .non := v5
      subst v5'
      refine ⟨_, rfl, ?_⟩
      have en := List.getLast?_eq_none_iff.mp e
      obtain ⟨z1, z2⟩ := gone_none en
      rw [z1, List.append_nil] at a5
      rw [z2] at r5
      refine ⟨.ref go, rfl, .ref le, rfl, le, _, rfl, .inl ⟨.inl (.inl l5), fun t H6 s6 n6 t6 => ?_⟩⟩
      refine ⟨(by show 2 ≤ sizeLine; decide), fun T hT => ?_⟩
      have s7 := same_upd (o := .tup [.ref go, .ref t]) hT
      refine q T go t _ ((s5.trans s6).trans s7) hgo0 upd_same ?_ ?_
      · rw [← a5]
        exact s7 _ _ (s6 _ _ g5)
      · rw [← r5]
        exact t6.same s7
    | some x =>
      rw [e] at v5
      obtain ⟨i, rfl, hx⟩ := v5
      have hi : i < cur.length := (List.getElem?_eq_some_iff.mp hx).1
      obtain ⟨z1, z2⟩ := gone_some d5 e
      have rl := rem_len d5 (List.mem_of_getElem? hx)
      refine ⟨_, rfl, ?_⟩
      have ngl' : go ≠ le := Ne.symm ngl
      refine ⟨.ref go, rfl, .inl ⟨rfl, _, .inl (.inl g5)⟩, .ref le, rfl, .inl ⟨rfl, _, .inl (.inl l5)⟩, _, rfl, le, _, i, i, .str x, rfl, rfl, l5, by omega, by omega, ?_, ix_map hx, ?_⟩
      · rw [List.length_map]
        exact PyProof.Rows.seqIndex_at (by omega) (by omega)
      rw [erase_map, erase_rem d5 hx]
      have g6 : upd H5 le (.lst ((rem cur x).map V.str)) go = some (.lst (acc.map V.str)) := (upd_ne ngl').trans g5
      refine ⟨go, _, _, rfl, rfl, g6, ?_, ?_⟩
      · rw [List.length_map]
        exact small1000 (by omega)
      have l7 : upd (upd H5 le (.lst ((rem cur x).map V.str))) go (.lst (acc.map V.str ++ [.str x])) le = some (.lst ((rem cur x).map V.str)) := (upd_ne ngl).trans upd_same
      have s7 : Same H (upd (upd H5 le (.lst ((rem cur x).map V.str))) go (.lst (acc.map V.str ++ [.str x]))) := fun b o z => by
        rw [upd_ne (ne_of_none z hgo0), upd_ne (ne_of_none z hle0)]
        exact s5 _ _ z
      have k7 : KnAt (upd (upd H5 le (.lst ((rem cur x).map V.str))) go (.lst (acc.map V.str ++ [.str x]))) d ps := by
        obtain ⟨kvs, w1, w2⟩ := k5
        exact ⟨kvs, (upd_ne (ne_of w1 g5 (fun z => nomatch z))).trans ((upd_ne (ne_of w1 l5 (fun z => nomatch z))).trans w1), w2⟩
      refine ⟨_, rfl, _, rfl, _, rfl, d, le, p, ps, rem cur x, stay, rfl, k7, l7, by omega, (fun H' s => hb H' (s7.trans s)), fun v8 H8 s8 hv8 => ?_⟩
      refine ⟨⟨acc ++ [x], rem cur x, v8, rfl, s7.trans s8, k7.same s8, s8 _ _ l7, ?_, rem_nodup d5, ?_, hv8, ?_, ?_⟩, ?_⟩
      · rw [List.map_append]
        exact s8 _ _ upd_same
      · rw [List.length_append]
        show acc.length + 1 + _ = _
        omega
      · rw [List.append_assoc]
        show acc ++ (x :: goneO ps stay (rem cur x)) = _
        rw [← z1]
        exact a5
      · rw [← z2]
        exact r5
      · rw [s8 _ _ l7, l5]
        show ((rem cur x).map V.str).length < (cur.map V.str).length
        rw [List.length_map, List.length_map]
        omega
  · rintro σ H5 Q1 Q2 hQ ⟨y, hy, c, hc, z⟩
    exact ⟨y, hy, c, hc, hQ _ _ z⟩
abbrev sGone : Stmt := topS 26
abbrev nGone : List Str := ["friends", "row", "but"]
theorem scGone : FnScope nGone nGone (defScope sGone) := ⟨rfl, rfl, rfl, by decide +kernel, rfl, by decide +kernel, by decide +kernel⟩
theorem ok_gone {f : Addr} {fd : FuncData} (CB : Cal P w K mg base 1 "both_ways" ["friends"] spBoth) (CS : Cal P w K mg base 4 "gone_and_stayed" ["known", "row", "but"] (spStayed K)) (F : Fun K "gone_and_left" "gone_and_left" sGone f fd) : FnOk P w K mg base CX0 5 f fd ["friends", "row", "but"] (spGone K) := by
  refine fok F scGone (fun vs H Q E h => ?_) (fun cdv A outer s H vs Q E hr h => ?_)
  · obtain ⟨a, r, p, ps, row, stay, rfl, _⟩ := h
    rfl
  obtain ⟨a, r, p, ps, row, stay, rfl, ha, hp, hrow, hd, hn, hb, q⟩ := h
  refine ⟨_, pss_one (ps_ret (pe_cal CS hr (pa_cons (pe_cal CB hr (pa_cons (pv 0) pa_nil)) (pa_cons (pv 1) (pa_cons (pv 2) pa_nil))))), ?_⟩
  refine ⟨_, rfl, a, ps, rfl, ha, hp, fun d H1 s1 nd1 k1 => ?_⟩
  refine ⟨_, rfl, _, rfl, d, r, p, ps, row, stay, rfl, k1, hrow.same s1, hd, hn, (fun H' s => hb H' (s1.trans s)), fun T g t H2 s2 n2 eT eg et => ?_⟩
  exact q T g t H2 (s1.trans s2) (s1.free n2) eT eg et
/-! ### next_barred, ring_among, order_of -/
abbrev sNextB : Stmt := topS 28
abbrev nNextB : List Str := ["known", "row", "who", "left", "barred", "other", "word"]
abbrev pNextB : List Str := ["known", "row", "who", "left"]
theorem scNextB : FnScope nNextB pNextB (defScope sNextB) := ⟨rfl, rfl, rfl, by decide +kernel, rfl, by decide +kernel, by decide +kernel⟩
theorem ok_nextB {f : Addr} {fd : FuncData} (CB : Cal P w K mg base 2 "bar_words" ["known", "row", "one", "other"] spBarW) (F : Fun K "next_barred" "next_barred" sNextB f fd) : FnOk P w K mg base CX0 3 f fd pNextB spNextB := by
  refine fok F scNextB (fun vs H Q E h => ?_) (fun cdv A outer s H vs Q E hr h => ?_)
  · obtain ⟨d, r, lf, ps, row, left, who, rfl, _⟩ := h
    rfl
  obtain ⟨d, r, lf, ps, row, left, who, rfl, hd, hrow, hn, ndr, hlf, hll, hsub, hw, hne, q⟩ := h
  obtain ⟨iw, hiw⟩ := List.mem_iff_getElem?.mp hw
  refine ⟨_, pss_cons (ps_setLc2 (i := 4) (own := [("other", 5), ("word", 6)]) (vs1 := [6]) (g := gName 5) (tt := tYes) (wi1 := iList K (tCall spBarW [] E0 (tCons (tVar 0) (tCons (tVar 1) (tCons (tVar 2) (tCons (tVar 5) tNil)))))) (g1 := gName 6) (tt1 := tYes) (te := tTup (tCons (tVar 5) (tCons (tVar 6) tNil))) rfl scNextB.nd rfl rfl (sw_true rfl rfl rfl (by decide +kernel)) (pi_tup (pv 3)) (blkOk_by (N := nNextB) (sc := defScope sNextB) (by decide +kernel)) (by decide)
        (fun _ _ _ _ _ => pg_name (i := 5) scNextB.nd rfl (Or.inl rfl)) (fun _ _ _ _ _ => pts_nil)
        (fun _ _ _ _ _ => pi_list (pe_cal CB hr (pa_cons (pv 0) (pa_cons (pv 1) (pa_cons (pv 2) (pa_cons (pv 5) pa_nil))))))
        (fun _ _ _ _ _ => pg_name (i := 6) scNextB.nd rfl (Or.inl rfl)) (fun _ _ _ _ _ => pts_nil) (fun _ _ _ _ _ => pe_tup (pa_cons (pv 5) (pa_cons (pv 6) pa_nil))))
    (pss_one (ps_ret (pe_ix ix_list (pv 4) pe_int (fun _ _ => rfl)))), ?_⟩
  refine ⟨.ref lf, rfl, lf, rfl, ⟨_, hlf.sq⟩, fun D hD => ?_⟩
  refine lc2_it (walk_tup (xs := left.map V.str)) (fun i H' => ∃ bs : List B3, Same H H' ∧ H' D = some (.lst (refs bs)) ∧ PairsAt H' bs ∧ bs.length ≤ 3 * i ∧ bs.map (·.2) = barredTo ps row left who i) ?_ ?_ ?_ ?_
  · exact ⟨[], same_upd hD, upd_same, (fun _ h => nomatch h), Nat.zero_le _, rfl⟩
  · rintro i H' _ ⟨bs, s1, _⟩
    exact (hlf.same s1).sq
  · rintro i v H2 H1 hi ⟨bs, s1, d1, p1, l1, m1⟩ ⟨rfl, e2⟩
    obtain ⟨o, ho, rfl⟩ := at_map e2
    rw [List.length_map] at hi
    obtain ⟨j, hj⟩ := List.mem_iff_getElem?.mp (hsub o (List.mem_of_getElem? ho))
    refine ⟨rfl, ?_⟩
    refine ⟨_, rfl, _, rfl, _, rfl, _, rfl, d, r, ps, row, who, o, iw, j, rfl, hd.same s1, hrow.same s1, hn, ndr, hiw, hj, fun lw H3 s3 n3 e3 => ?_⟩
    have ew : wordsOf ps row who o iw j = wordsAt ps row who o := by
      unfold wordsAt
      rw [idx_at ndr hiw, idx_at ndr hj]
    rw [ew] at e3
    have wl : (wordsAt ps row who o).length ≤ 3 := words_len _ _ _ _ _ _
    have nlD : lw ≠ D := fun z => by rw [z, d1] at n3; cases n3
    refine ⟨lw, rfl, ⟨_, .inl (.inl e3)⟩, ?_⟩
    refine lc1_it (walk_list (xs := (wordsAt ps row who o).map V.str)) (fun k H' => ∃ bs' : List B3, Same H H' ∧ H' D = some (.lst (refs bs')) ∧ PairsAt H' bs' ∧ H' lw = some (.lst ((wordsAt ps row who o).map V.str)) ∧ bs'.length ≤ 3 * i + k ∧ bs'.map (·.2) = barredTo ps row left who i ++ ((wordsAt ps row who o).take k).map fun w => (o, w)) ?_ ?_ ?_ ?_
    · exact ⟨bs, s1.trans s3, s3 _ _ d1, p1.same s3, e3, by omega, by rw [m1]; simp⟩
    · rintro k H' _ ⟨bs', _, _, _, e, _⟩
      exact .inl (.inl e)
    · rintro k v H5 H4 hk ⟨bs', s4, d4, p4, w4, l4, m4⟩ ⟨rfl, ex⟩
      obtain ⟨wd, hwd, rfl⟩ := at_map ex
      rw [List.length_map] at hk
      refine ⟨rfl, ?_⟩
      refine ⟨_, rfl, _, rfl, (by show 2 ≤ sizeLine; decide), fun pt hpt => ?_⟩
      have s5 := same_upd (o := .tup [.str o, .str wd]) hpt
      have npD : pt ≠ D := fun z => by rw [z, d4] at hpt; cases hpt
      refine ⟨_, s5 _ _ d4, ?_, bs' ++ [(pt, o, wd)], fun b o' e => ?_, ?_, ?_, ?_, ?_, ?_⟩
      · show (bs'.map _).length < sizeLine
        rw [List.length_map]
        exact small1000 (by omega)
      · rw [upd_ne (ne_of_none e hD)]
        exact s5 _ _ (s4 _ _ e)
      · rw [upd_same]
        show some (HO.lst (refs bs' ++ [.ref pt])) = some (.lst (refs (bs' ++ [_])))
        unfold refs
        rw [List.map_append]
        rfl
      · intro c hc
        rcases List.mem_append.mp hc with z | z
        · have := s5 _ _ (p4 c z)
          exact (upd_ne (ne_of this (s5 _ _ d4) (fun z => nomatch z))).trans this
        · rw [List.mem_singleton.mp z]
          exact (upd_ne npD).trans upd_same
      · rw [upd_ne nlD]
        exact s5 _ _ w4
      · rw [List.length_append]
        show bs'.length + 1 ≤ _
        omega
      · rw [List.map_append, m4, List.take_add_one, hwd, List.map_append, List.append_assoc]
        rfl
    · rintro H4 ⟨bs', s4, d4, p4, w4, l4, m4⟩
      rw [List.length_map] at l4 m4
      rw [List.take_of_length_le (Nat.le_refl _)] at m4
      exact ⟨bs', s4, d4, p4, by omega, by rw [m4, barredTo_step ho]⟩
  · rintro H1 ⟨bs, s1, d1, p1, l1, m1⟩
    rw [List.length_map, barredTo_all] at m1
    cases bs with
    | nil => exact absurd m1.symm hne
    | cons c bs =>
      refine ⟨.ref D, rfl, D, _, 0, .ref c.1, rfl, rfl, .inl (.inl d1), atI_nat (j := 0) rfl, q c.1 H1 s1 ?_⟩
      have en : nextB ps row left who = c.2 := by
        unfold nextB
        rw [← m1]
        rfl
      rw [en]
      exact p1 c (List.mem_cons_self ..)
abbrev sRingA : Stmt := topS 29
abbrev nRingA : List Str := ["friends", "row", "left", "known", "path", "places", "who", "other", "word"]
theorem scRingA : FnScope nRingA ["friends", "row", "left"] (defScope sRingA) := ⟨rfl, rfl, rfl, by decide +kernel, rfl, by decide +kernel, by decide +kernel⟩
theorem ok_ringA {f : Addr} {fd : FuncData} (B : Blt mg) (CB : Cal P w K mg base 1 "both_ways" ["friends"] spBoth) (CN : Cal P w K mg base 3 "next_barred" ["known", "row", "who", "left"] spNextB) (F : Fun K "ring_among" "ring_among" sRingA f fd) : FnOk P w K mg base CX0 4 f fd ["friends", "row", "left"] spRingA := by
  refine fok F scRingA (fun vs H Q E h => ?_) (fun cdv A outer s H vs Q E hr h => ?_)
  · obtain ⟨a, r, lf, ps, row, left, rfl, _⟩ := h
    rfl
  obtain ⟨a, r, lf, ps, row, left, rfl, ha, hp, hrow, hn, ndr, hlf, ndl, hne, hsub, hbar, q⟩ := h
  have h1 : Room 1 _ := hr.mono (by decide)
  have hu := hu_of hr
  have hll : left.length ≤ 100 := Nat.le_trans (nd_len left row ndl hsub) hn
  refine ⟨_, pss_cons (ps_set (i := 3) scRingA.nd rfl (.inl rfl) (pe_cal CB h1 (pa_cons (pv 0) pa_nil)))
    (pss_cons (ps_set (i := 4) scRingA.nd rfl (.inl rfl) (pe_lst pa_nil))
    (pss_cons (ps_set (i := 5) scRingA.nd rfl (.inl rfl) pe_dnewK)
    (pss_cons (ps_set (i := 6) scRingA.nd rfl (.inl rfl) (pe_ix ix_tup (pv 2) pe_int (fun _ _ => rfl)))
    (pss_cons (ps_while PassesOwn.never (pt_cmp (pc_dnotin hu (pv 6) (pv 5)))
      (pss_cons (ps_dput hu (pv 5) (pv 6) (pe_callB call_len_seq (by rfl) B.len PySem.boot_len (pa_cons (pv 4) pa_nil)) rfl)
      (pss_cons (ps_asg (pe_cal CN hr (pa_cons (pv 3) (pa_cons (pv 1) (pa_cons (pv 6) (pa_cons (pv 2) pa_nil))))) (pg_tup rfl (pgs_cons (pg_name (i := 7) scRingA.nd rfl (.inl rfl)) (pgs_cons (pg_name (i := 8) scRingA.nd rfl (.inl rfl)) pgs_nil))))
      (pss_cons (ps_expr (pe_bm PySem.F.plainAttrs_list PySem.F.slot_list_append PySem.F.type_list_append mt_append (pv 4) (pa_cons (pe_tup (pa_cons (pv 6) (pa_cons (pv 8) pa_nil))) pa_nil)))
      (pss_one (ps_set (i := 6) scRingA.nd rfl (.inl rfl) (pv 7)))))))
    (pss_one (ps_ret (pe_slice sl_list (pv 4) (po_some (pe_dget hu (pv 5) (pv 6) (fun _ _ => rfl))) po_none))))))), ?_⟩
  refine ⟨_, rfl, a, ps, rfl, ha, hp, fun d H1 s1 nd1 k1 => ?_⟩
  refine ⟨(by show 0 ≤ sizeLine; decide), fun pa hpa => ?_⟩
  have s2 := same_upd (o := .lst []) hpa
  have npa : H pa = none := s1.free hpa
  refine fun pl hpl => ?_
  have s3 := same_upd (o := .dK []) hpl
  have npl : H pl = none := (s1.trans s2).free hpl
  have nap : pa ≠ pl := fun z => by rw [← z, upd_same] at hpl; cases hpl
  have s03 := (s1.trans s2).trans s3
  obtain ⟨x0, rest, el⟩ : ∃ x0 rest, left = x0 :: rest := by
    cases left with
    | nil => exact absurd rfl hne
    | cons x0 rest => exact ⟨x0, rest, rfl⟩
  have hlf3 := hlf.same s03
  refine ⟨.ref lf, rfl, lf, _, 0, .str x0, rfl, rfl, hlf3.sq, by rw [el]; exact atI_nat (j := 0) rfl, ?_⟩
  refine while_by (fun σ H' => ∃ (bs : List B3) (kvs : List (Key × V)) (who : Str) (m : Nat) (y7 y8 : Option V), σ = [some (.ref a), some (.ref r), some (.ref lf), some (.ref d), some (.ref pa), some (.ref pl), some (.str who), y7, y8] ∧ Same H H' ∧ KnAt H' d ps ∧ H' pa = some (.lst (refs bs)) ∧ PairsAt H' bs ∧ H' pl = some (.dK kvs) ∧ kvs.length ≤ bs.length ∧ who ∈ left ∧ ((bs.map (·.2)).map (·.1)).Nodup ∧ (∀ x ∈ (bs.map (·.2)).map (·.1), x ∈ left) ∧ m + bs.length = left.length + 1 ∧
      (∀ x, valV kvs (.inr x) = if x ∈ (bs.map (·.2)).map (·.1) then some (.int (((bs.map (·.2)).map (·.1)).idxOf x : Nat)) else none) ∧ ringN ps row left m (bs.map (·.2)) who = ringOf ps row left)
    (fun σ H' => match H' pa with | some (.lst xs) => left.length + 1 - xs.length | _ => 0) ?_ ?_ ?_
  · refine ⟨[], [], x0, left.length + 1, _, _, rfl, s03, (k1.same s2).same s3, s3 _ _ upd_same, (fun _ h => nomatch h), upd_same, Nat.le_refl _, by rw [el]; exact List.mem_cons_self .., List.nodup_nil, (fun _ h => nomatch h), rfl, fun x => rfl, ?_⟩
    unfold ringOf
    rw [el]
    rfl
  · rintro σ H5 ⟨bs, kvs, who, m, y7, y8, rfl, s5, k5, a5, p5, l5, z5, w5, n5, b5, m5, v5, r5⟩
    refine ⟨.str who, rfl, .ref pl, rfl, pl, _, rfl, DGet.k (k := .inr who) l5, _, rfl, ?_⟩
    rw [v5]
    by_cases c : who ∈ (bs.map (·.2)).map (·.1)
    · rw [if_pos c]
      have g := DGet.k (k := .inr who) l5
      rw [v5, if_pos c] at g
      refine ⟨.ref pa, rfl, .ref pl, rfl, .str who, rfl, pl, _, rfl, g, _, rfl, pa, _, rfl, .inl (.inl a5), fun p hp6 => ?_⟩
      unfold refs
      rw [cutV_map, cutL_from]
      have s6 := same_upd (o := .lst ((bs.drop (((bs.map (·.2)).map (·.1)).idxOf who)).map fun b => V.ref b.1)) hp6
      refine q p (bs.drop (((bs.map (·.2)).map (·.1)).idxOf who)) _ (s5.trans s6) (s5.free hp6) upd_same (fun c hc => s6 _ _ (p5 c (List.mem_of_mem_drop hc))) ?_
      rw [← r5, List.map_drop]
      match m, m5 with
      | 0, m5 =>
        have := nd_len _ _ n5 b5
        rw [List.length_map, List.length_map] at this
        omega
      | m + 1, _ =>
        unfold ringN
        rw [if_pos c]
    · rw [if_neg c]
      have bl1 : bs.length + 1 ≤ left.length := by
        have := nd_len (who :: (bs.map (·.2)).map (·.1)) left (List.nodup_cons.mpr ⟨c, n5⟩) (fun x hx => by
          rcases List.mem_cons.mp hx with z | z
          · rw [z]
            exact w5
          · exact b5 x z)
        rw [List.length_cons, List.length_map, List.length_map] at this
        exact this
      have bl : bs.length ≤ 100 := by omega
      have dp : DPut H5 pl (.str who) (.int (refs bs).length) (upd H5 pl (.dK (putK kvs (.inr who) (.int (refs bs).length)))) := DPut.k (k := .inr who) l5 (small9 (by omega))
      refine ⟨.ref pa, rfl, pa, _, rfl, .inl (.inl (.inl a5)), .ref pl, rfl, .str who, rfl, pl, _, rfl, dp, ?_⟩
      have ne1 : pa ≠ pl := nap
      have a6 : upd H5 pl (.dK (putK kvs (.inr who) (.int (refs bs).length))) pa = some (.lst (refs bs)) := (upd_ne ne1).trans a5
      have k6 : KnAt (upd H5 pl (.dK (putK kvs (.inr who) (.int (refs bs).length)))) d ps := by
        obtain ⟨kk, w1, w2⟩ := k5
        exact ⟨kk, (upd_ne (ne_of w1 l5 (fun z => nomatch z))).trans w1, w2⟩
      have s6 : Same H (upd H5 pl (.dK (putK kvs (.inr who) (.int (refs bs).length)))) := fun b o e => by
        rw [upd_ne (ne_of_none e npl)]
        exact s5 _ _ e
      have p6 : PairsAt (upd H5 pl (.dK (putK kvs (.inr who) (.int (refs bs).length)))) bs := fun c hc => (upd_ne (ne_of (p5 c hc) l5 (fun z => nomatch z))).trans (p5 c hc)
      refine ⟨_, rfl, _, rfl, _, rfl, _, rfl, d, r, lf, ps, row, left, who, rfl, k6, hrow.same s6, hn, ndr, hlf.same s6, hll, hsub, hsub who w5, hbar who w5, fun T H7 s7 e7 => ?_⟩
      refine ⟨T, _, rfl, .inl (.inl e7), rfl, _, _, rfl, _, _, rfl, rfl, ?_⟩
      have a7 := s7 _ _ a6
      refine ⟨.ref pa, rfl, .inl ⟨rfl, _, .inl (.inl a7)⟩, _, rfl, _, rfl, (by show 2 ≤ sizeLine; decide), fun pt hpt => ?_⟩
      have s8 := same_upd (o := .tup [.str who, .str (nextB ps row left who).2]) hpt
      have npt : pt ≠ pa := fun z => by rw [z, a7] at hpt; cases hpt
      have a8 := s8 _ _ a7
      refine ⟨pa, _, _, rfl, rfl, a8, ?_, ?_⟩
      · show (bs.map _).length < sizeLine
        rw [List.length_map]
        exact small1000 (by omega)
      have l8 := s8 _ _ (s7 _ _ (upd_same (H := H5) (a := pl) (o := .dK (putK kvs (.inr who) (.int (refs bs).length)))))
      have nx := barred_mem.mp (next_mem (hbar who w5))
      refine ⟨_, rfl, ⟨bs ++ [(pt, who, (nextB ps row left who).2)], putK kvs (.inr who) (.int (refs bs).length), (nextB ps row left who).1, m - 1, _, _, rfl, fun b o e => ?_, ?_, ?_, ?_, ?_, ?_, nx.1, ?_, ?_, ?_, fun x => ?_, ?_⟩, ?_⟩
      · rw [upd_ne (ne_of_none e npa)]
        exact s8 _ _ (s7 _ _ (s6 _ _ e))
      · obtain ⟨kk, w1, w2⟩ := (k6.same s7).same s8
        exact ⟨kk, (upd_ne (ne_of w1 a8 (fun z => nomatch z))).trans w1, w2⟩
      · rw [upd_same]
        show some (HO.lst (refs bs ++ [.ref pt])) = some (.lst (refs (bs ++ [_])))
        unfold refs
        rw [List.map_append]
        rfl
      · intro c' hc
        rcases List.mem_append.mp hc with z | z
        · have := s8 _ _ (s7 _ _ (p6 c' z))
          exact (upd_ne (ne_of this a8 (fun z => nomatch z))).trans this
        · rw [List.mem_singleton.mp z]
          exact (upd_ne npt).trans upd_same
      · rw [upd_ne (Ne.symm nap)]
        exact l8
      · have := putK_lenK (kvs := kvs) (k := .inr who) (v := V.int (refs bs).length)
        rw [List.length_append]
        show _ ≤ bs.length + 1
        omega
      · rw [List.map_append, List.map_append]
        refine List.nodup_append.mpr ⟨n5, by simp, ?_⟩
        intro x hx y hy
        have ey : y = who := by simpa using hy
        rw [ey]
        exact fun z => c (z ▸ hx)
      · intro x hx
        rw [List.map_append, List.map_append] at hx
        rcases List.mem_append.mp hx with z | z
        · exact b5 x z
        · have : x = who := by simpa using z
          rw [this]
          exact w5
      · rw [List.length_append]
        show m - 1 + (bs.length + 1) = _
        omega
      · rw [valV_put, List.map_append, List.map_append]
        show _ = if x ∈ (bs.map (·.2)).map (·.1) ++ [who] then some (V.int (((bs.map (·.2)).map (·.1) ++ [who]).idxOf x : Nat)) else none
        by_cases cx : x = who
        · subst cx
          rw [if_pos rfl, if_pos (by simp), List.idxOf_append, if_neg c]
          have : (refs bs).length = ((bs.map (·.2)).map (·.1)).length := by
            unfold refs
            rw [List.length_map, List.length_map, List.length_map]
          rw [this]
          simp
        · rw [if_neg (fun z => cx (Sum.inr.inj z)), v5]
          by_cases cy : x ∈ (bs.map (·.2)).map (·.1)
          · rw [if_pos cy, if_pos (List.mem_append_left _ cy), List.idxOf_append, if_pos cy]
          · rw [if_neg cy, if_neg (by
              intro z
              rcases List.mem_append.mp z with z | z
              · exact cy z
              · exact cx (by simpa using z))]
      · rw [← r5, List.map_append]
        match m, m5 with
        | 0, m5 => omega
        | m + 1, _ =>
          show ringN ps row left m _ _ = ringN ps row left (m + 1) _ _
          conv => rhs; unfold ringN
          rw [if_neg c]
          rfl
      · rw [upd_same, a5]
        show left.length + 1 - (refs bs ++ [V.ref pt]).length < left.length + 1 - (refs bs).length
        have : (refs bs).length = bs.length := by unfold refs; rw [List.length_map]
        rw [List.length_append, this]
        show left.length + 1 - (bs.length + 1) < _
        omega
  · rintro σ H5 Q1 Q2 hQ ⟨y, hy, x, hx, a', o', e1, e2, c', hc', z⟩
    exact ⟨y, hy, x, hx, a', o', e1, e2, c', hc', hQ _ _ z⟩
abbrev sOrderOf : Stmt := topS 30
abbrev nOrderOf : List Str := ["friends", "row", "gone", "left"]
theorem scOrderOf : FnScope nOrderOf ["friends", "row"] (defScope sOrderOf) := ⟨rfl, rfl, rfl, by decide +kernel, rfl, by decide +kernel, by decide +kernel⟩
theorem ok_orderOf {f : Addr} {fd : FuncData} (CG : Cal P w K mg base 5 "gone_and_left" ["friends", "row", "but"] (spGone K)) (CR : Cal P w K mg base 4 "ring_among" ["friends", "row", "left"] spRingA) (F : Fun K "order_of" "order_of" sOrderOf f fd) : FnOk P w K mg base CX0 6 f fd ["friends", "row"] spOrderOf := by
  refine fok F scOrderOf (fun vs H Q E h => ?_) (fun cdv A outer s H vs Q E hr h => ?_)
  · obtain ⟨a, r, ps, row, rfl, _⟩ := h
    rfl
  obtain ⟨a, r, ps, row, rfl, ha, hp, irr, hrow, hd, hn, q⟩ := h
  refine ⟨_, pss_cons (ps_asg (pe_cal CG hr (pa_cons (pv 0) (pa_cons (pv 1) (pa_cons (pe_tupF pa_nil) pa_nil)))) (pg_tup rfl (pgs_cons (pg_name (i := 2) scOrderOf.nd rfl (.inl rfl)) (pgs_cons (pg_name (i := 3) scOrderOf.nd rfl (.inl rfl)) pgs_nil))))
    (pss_cons (ps_if (pt_truth (pv 3) (by intro _; rfl)) (pss_one (ps_ret (pe_tup (pa_cons pe_str (pa_cons (pe_cal CR hr (pa_cons (pv 0) (pa_cons (pv 1) (pa_cons (pv 3) pa_nil)))) pa_nil))))) pss_nil)
    (pss_one (ps_ret (pe_tup (pa_cons pe_str (pa_cons (pe_revL (pv 2)) pa_nil)))))), ?_⟩
  refine ⟨_, rfl, _, rfl, (by show 0 ≤ sizeLine; decide), fun p0 H0 s0 n0 t0 => ?_⟩
  obtain ⟨gr1, gr2, gr3⟩ := gone_red (stay := []) irr row.length row rfl hd
  have gl := gr1.len
  refine ⟨a, r, p0, ps, row, [], rfl, ha.same s0, hp, hrow.same s0, hd, hn, (fun H' s => .inr (t0.same s).sq), fun T g t H1 s1 ng eT eg et => ?_⟩
  refine ⟨T, _, rfl, .inl (.inl eT), rfl, _, _, rfl, _, _, rfl, rfl, ?_⟩
  have s01 := s0.trans s1
  refine ⟨.ref t, rfl, _, .inr (.inl ⟨_, et.sq, rfl⟩), ite2 (fun c => ?_) (fun c => ?_)⟩
  · have ne : goneR ps [] row ≠ [] := fun z => by rw [z] at c; cases c
    refine ⟨_, rfl, _, rfl, _, rfl, a, r, t, ps, row, goneR ps [] row, rfl, ha.same s01, hp, hrow.same s01, hn, hd, et, gr1.nodup hd, ne, gr1.sub, (fun x hx => barred_ne hd gr1 gr2 hx), fun p bs H2 s2 n2 e2 p2 m2 => ?_⟩
    refine ⟨(by show 2 ≤ sizeLine; decide), fun T2 hT2 => ?_⟩
    have s3 := same_upd (o := .tup [.str "ring", .ref p]) hT2
    exact q T2 p "ring" _ ((s01.trans s2).trans s3) (s01.free n2) upd_same (.inr ⟨ne, rfl, bs, s3 _ _ e2, p2.same s3, m2⟩)
  · have e0 : goneR ps [] row = [] := by
      cases e : goneR ps [] row with
      | nil => rfl
      | cons x l => rw [e] at c; exact absurd rfl c
    refine ⟨.ref g, rfl, g, _, rfl, .inl (.inl eg), fun p hp2 => ?_⟩
    have s2 := same_upd (o := .lst ((goneO ps [] row).map V.str).reverse) hp2
    refine ⟨(by show 2 ≤ sizeLine; decide), fun T2 hT2 => ?_⟩
    have s3 := same_upd (o := .tup [.str "order", .ref p]) hT2
    refine q T2 p "order" _ ((s01.trans s2).trans s3) (s01.free hp2) upd_same (.inl ⟨e0, rfl, ?_⟩)
    rw [List.map_reverse]
    exact s3 _ _ upd_same
/-! ### is_name, any text -/
abbrev sIsName : Stmt := topS 2
abbrev nIsName : List Str := ["thing", "letter"]
theorem scIsName : FnScope nIsName ["thing"] (defScope sIsName) := ⟨rfl, rfl, rfl, by decide +kernel, rfl, by decide +kernel, by decide +kernel⟩
theorem ok_isNmD {f : Addr} {fd : FuncData} (B : Blt mg) (hL : ∃ u, mg "LONGEST_NAME" = some u ∧ RelV (.int 8) u) (F : Fun K "is_name" "is_name" sIsName f fd) : FnOk P w K mg base CX0 1 f fd ["thing"] spIsNmD := by
  obtain ⟨uL, hmL, rL⟩ := hL
  refine fok F scIsName (fun vs H Q E h => ?_) (fun cdv A outer s H vs Q E hr h => ?_)
  · obtain ⟨v, bad, d, rfl, _⟩ := h
    rfl
  obtain ⟨v, bad, d, rfl, tr, lw, q0⟩ := h
  refine ⟨_, pss_cons (ps_if (PW.pt (pw_or (pt_not (pt_val (pe_callB call_isi (by rfl) B.isinstance (by decide +kernel) (pa_cons (pv 0) (pa_cons (pe_bltn (v := .ty "str") (by rfl) B.str (by decide +kernel) rfl) pa_nil))))) (pw_or1 (pt_not (pt_chain op_le op_le pe_int (pe_callB call_len_str (by rfl) B.len PySem.boot_len (pa_cons (pv 0) pa_nil)) (pe_glob (v := .int 8) (by rfl) hmL rL)))))) (pss_one (ps_ret pe_bl)) pss_nil)
    (pss_one (ps_ret (pe_callB (cr_all rfl) (by rfl) B.all (by decide +kernel) (pa_cons (pe_lc (own := [("letter", 1)]) (g := gName 1) (tt := tYes) (te := tChain rLeS rLeS (tC (.str "a")) (tVar 1) (tC (.str "z"))) rfl scIsName.nd (pi_str (pv 0)) (blkOk_by (N := nIsName) (sc := defScope sIsName) (by decide +kernel))
      (fun _ _ _ _ _ => pg_name (i := 1) scIsName.nd rfl (Or.inl rfl)) (fun _ _ _ _ _ => pts_nil) (fun _ _ _ _ _ => pe_chain op_leS op_leS pe_str (pv 1) pe_str)) pa_nil)))), ?_⟩
  refine ⟨_, rfl, _, _, _, _, _, rfl, .ty _, tr.ty, isi_S d, _, rfl, ite2 (fun c => ?_) (fun c => ?_)⟩
  · have fin := q0 H (Same.refl _)
    have : nmB d = false := by cases d <;> simp_all [isS, nmB]
    rw [this] at fin
    exact fin
  obtain ⟨x, rfl⟩ := is_str (by simpa using c)
  simp only [Tr] at tr
  subst tr
  have lx : x.length ≤ 20000 := (show x.cps.size ≤ 20000 by simpa only [PyData.weight] using lw)
  have q : ∀ H', Same H H' → Q (.bl (nb x)) H' := q0
  refine ⟨.str x, rfl, x, rfl, Nat.le_trans lx (by decide), _, _, rfl, rfl, _, rfl, ?_⟩
  by_cases h1 : 1 ≤ x.length
  · have e1 : decide ((1 : Int) ≤ ((x.length : Nat) : Int)) = true := decide_eq_true (by omega)
    rw [e1]
    refine iteT ⟨_, _, rfl, rfl, _, rfl, ?_⟩
    by_cases h2 : x.length ≤ 8
    · have e2 : decide (((x.length : Nat) : Int) ≤ (8 : Int)) = true := decide_eq_true (by omega)
      rw [e2]
      refine ⟨.str x, rfl, x, rfl, fun D hD => ?_⟩
      refine lc_list (walk_str (z := x)) x.cps.toList (fun c => .bl (lb c)) (by simp) (by have : x.cps.size ≤ 8 := h2; omega) hD (fun _ _ => trivial) ?_ ?_
      · rintro i c v H2 H2' k hi s2 ⟨rfl, c', hc, rfl⟩ hk
        obtain rfl : c' = c := by
          rw [← Array.getElem?_toList] at hc
          exact Option.some.inj (hc.symm.trans hi)
        refine ⟨rfl, _, rfl, _, _, rfl, rfl, _, rfl, ?_⟩
        have hk' : ∀ H4, Same H2' H4 → k (.bl (decide (97 ≤ c') && decide (c' ≤ 122))) H4 := hk
        by_cases c1 : 97 ≤ c'
        · rw [show (!decide ((⟨#[c']⟩ : Str).cps.toList < (("a" : Str)).cps.toList)) = true from letter_ge c1]
          refine iteT ⟨_, _, rfl, rfl, ?_⟩
          rw [decide_eq_true c1, Bool.true_and] at hk'
          by_cases c2 : c' ≤ 122
          · rw [show (!decide ((("z" : Str)).cps.toList < (⟨#[c']⟩ : Str).cps.toList)) = true from letter_le c2]
            rw [decide_eq_true c2] at hk'
            exact hk' H2' (Same.refl _)
          · rw [show (!decide ((("z" : Str)).cps.toList < (⟨#[c']⟩ : Str).cps.toList)) = false from letter_gt (by omega)]
            rw [decide_eq_false c2] at hk'
            exact hk' H2' (Same.refl _)
        · rw [show (!decide ((⟨#[c']⟩ : Str).cps.toList < (("a" : Str)).cps.toList)) = false from letter_lt (by omega)]
          rw [decide_eq_false c1, Bool.false_and] at hk'
          exact iteF (hk' H2' (Same.refl _))
      · intro H2 s2 d2
        rw [bools_map] at d2
        refine ⟨D, _, rfl, .inl (.inl d2), ?_⟩
        have := q H2 s2
        rw [nb_in h1 h2] at this
        exact this
    · have e2 : decide (((x.length : Nat) : Int) ≤ (8 : Int)) = false := decide_eq_false (by omega)
      rw [e2]
      have := q H (Same.refl _)
      rw [show nb x = false by unfold nb; simp [h2]] at this
      exact this
  · have e1 : decide ((1 : Int) ≤ ((x.length : Nat) : Int)) = false := decide_eq_false (by omega)
    rw [e1]
    refine iteF ?_
    have := q H (Same.refl _)
    rw [show nb x = false by unfold nb; simp [h1]] at this
    exact ⟨_, rfl, this⟩
/-! ### is_row of any thing -/
abbrev sIsRow : Stmt := topS 3
abbrev nIsRow : List Str := ["thing", "who"]
theorem scIsRow : FnScope nIsRow ["thing"] (defScope sIsRow) := ⟨rfl, rfl, rfl, by decide +kernel, rfl, by decide +kernel, by decide +kernel⟩
theorem ok_rowD {f : Addr} {fd : FuncData} (B : Blt mg) (CN : Cal P w K mg base 1 "is_name" ["thing"] spIsNmD) (F : Fun K "is_row" "is_row" sIsRow f fd) : FnOk P w K mg base CX0 2 f fd ["thing"] spRowD := by
  refine fok F scIsRow (fun vs H Q E h => ?_) (fun cdv A outer s H vs Q E hr h => ?_)
  · obtain ⟨v, bad, d, rfl, _⟩ := h
    rfl
  obtain ⟨v, bad, d, rfl, tr, wt, hn, q⟩ := h
  refine ⟨_, pss_cons (ps_if (PW.pt (pw_or (pt_not (pt_val (pe_callB call_isi (by rfl) B.isinstance (by decide +kernel) (pa_cons (pv 0) (pa_cons (pe_bltn (v := .ty "tuple") (by rfl) B.tuple (by decide +kernel) rfl) pa_nil))))) (pw_or1 (pt_not (pt_val (pe_callB (cr_all rfl) (by rfl) B.all (by decide +kernel) (pa_cons (pe_lc (own := [("who", 1)]) (g := gName 1) (tt := tYes) (te := tCall spIsNmD [] E0 (tCons (tVar 1) tNil)) rfl scIsRow.nd (pi_tup (pv 0)) (blkOk_by (N := nIsRow) (sc := defScope sIsRow) (by decide +kernel))
        (fun _ _ _ _ _ => pg_name (i := 1) scIsRow.nd rfl (Or.inl rfl)) (fun _ _ _ _ _ => pts_nil) (fun _ _ _ _ _ => pe_cal CN hr (pa_cons (pv 1) pa_nil))) pa_nil))))))) (pss_one (ps_ret pe_bl)) pss_nil)
    (pss_one (ps_ret (pe_cmpR op_eq (pe_lenStrsTQ rfl (by rfl) B.len (by rfl) B.set (pv 0)) (pe_callB call_len_seq (by rfl) B.len PySem.boot_len (pa_cons (pv 0) pa_nil)) (nomark _)))), ?_⟩
  refine ⟨_, rfl, _, _, _, _, _, rfl, .ty _, tr.ty, isi_T d, _, rfl, ?_⟩
  cases d with
  | tuple ds =>
    have hn : ds.length ≤ 90 := hn
    have q : ∀ H', Same H H' → Q (.bl (ds.all nmB && decide (ds.map strPD).Nodup)) H' := q
    simp only [Tr] at tr
    obtain ⟨t, xs, rfl, nt, ht, tx⟩ := tr
    have lx := tx.len
    refine ⟨.ref t, rfl, t, rfl, ⟨_, ht.sq⟩, fun D hD => ?_⟩
    refine lc_vals (walk_tup (K := K) (xs := xs)) (fun i => .bl (nmB (ds.getD i .none))) (by omega) hD (fun H' s => (ht.same s).sq) ?_ ?_
    · rintro j v H1 H1' kk hj s1 ⟨rfl, ex⟩ k1
      have hj' : j < ds.length := by omega
      have ed := List.getElem?_eq_getElem hj'
      have t1 := (tx.at ed ex).same s1
      have e2 : ds.getD j .none = ds[j] := by rw [List.getD_eq_getElem?_getD, ed]; rfl
      have w1 := weight_mem (List.mem_of_getElem? ed)
      have wt : PyData.weightAll ds ≤ 10000 := by simpa only [PyData.weight] using wt
      rw [← e2] at t1
      rw [← e2] at w1
      exact ⟨rfl, _, rfl, v, bad, _, rfl, t1, by omega, k1⟩
    intro H2 s2 e2
    have eb : (List.range xs.length).map (fun i => V.bl (nmB (ds.getD i .none))) = ((List.range ds.length).map fun i => nmB (ds.getD i .none)).map V.bl := by rw [List.map_map, lx]; rfl
    rw [eb] at e2
    refine ⟨D, _, rfl, .inl (.inl e2), _, rfl, ?_⟩
    rw [range_map nmB ds _ (fun i x e => by rw [List.getD_eq_getElem?_getD, e]; rfl)]
    have fin := q H2 s2
    have t2 := ht.same s2
    cases ea : ds.all nmB with
    | false =>
      rw [ea, Bool.false_and] at fin
      exact fin
    | true =>
      rw [ea, Bool.true_and] at fin
      have ns := nms_str ea
      have tx' := tx
      rw [ns.1] at tx'
      have exs := tx'.strs_eq
      subst exs
      refine ⟨.ref t, rfl, t, _, rfl, t2.sq, (by rw [List.length_map]; omega), fun us nu mu => ⟨.ref t, rfl, t, _, rfl, .inr t2.sq, rfl, ?_⟩⟩
      rw [List.length_map, set_len nu mu]
      exact fin
  | none => exact q _ (Same.refl _)
  | bool _ => exact q _ (Same.refl _)
  | int _ => exact q _ (Same.refl _)
  | str _ => exact q _ (Same.refl _)
  | list _ => exact q _ (Same.refl _)
  | dict _ => simp only [Tr] at tr
/-! ### is_link, are_links, each_bars_the_next, shows_ring -/
abbrev sIsLink : Stmt := topS 17
abbrev nIsLink : List Str := ["thing"]
theorem scIsLink : FnScope nIsLink nIsLink (defScope sIsLink) := ⟨rfl, rfl, rfl, by decide +kernel, rfl, by decide +kernel, by decide +kernel⟩
theorem ok_isLinkD {f : Addr} {fd : FuncData} (B : Blt mg) (CN : Cal P w K mg base 1 "is_name" ["thing"] spIsNmD) (F : Fun K "is_link" "is_link" sIsLink f fd) : FnOk P w K mg base CX0 2 f fd ["thing"] spLinkD := by
  refine fok F scIsLink (fun vs H Q E h => ?_) (fun cdv A outer s H vs Q E hr h => ?_)
  · obtain ⟨v, bad, d, rfl, _⟩ := h
    rfl
  refine ⟨_, pss_one (ps_ret (pe_and (pe_callB call_isi (by rfl) B.isinstance (by decide +kernel) (pa_cons (pv 0) (pa_cons (pe_bltn (v := .ty "tuple") (by rfl) B.tuple (by decide +kernel) rfl) pa_nil))) (pe_and (pe_cmpR op_eq (pe_callB call_len_seq (by rfl) B.len PySem.boot_len (pa_cons (pv 0) pa_nil)) pe_int (nomark _)) (pe_one (pe_cal CN hr (pa_cons (pe_ix ix_tup (pv 0) pe_int (fun _ _ => rfl)) pa_nil)))))), ?_⟩
  obtain ⟨v, bad, d, rfl, tr, wt, q⟩ := h
  refine ⟨_, rfl, _, _, _, _, _, rfl, .ty _, tr.ty, isi_T d, _, rfl, ?_⟩
  cases d with
  | none => exact q _ (Same.refl _)
  | bool _ => exact q _ (Same.refl _)
  | int _ => exact q _ (Same.refl _)
  | str _ => exact q _ (Same.refl _)
  | list _ => exact q _ (Same.refl _)
  | dict _ => simp only [Tr] at tr
  | tuple ds =>
  simp only [Tr] at tr
  obtain ⟨t, xs, rfl, nt, ht, tx⟩ := tr
  have lx := tx.len
  have wt : PyData.weightAll ds ≤ 10000 := by simpa only [PyData.weight] using wt
  refine ⟨_, rfl, t, _, rfl, .inr ht.sq, rfl, _, rfl, ?_⟩
  by_cases l2 : ds.length = 2
  rotate_left
  · have e0 : linkB (.tuple ds) = false := by
      match ds, l2 with
      | [], _ => rfl
      | [_], _ => rfl
      | [_, _], h => exact absurd rfl h
      | _ :: _ :: _ :: _, _ => rfl
    rw [decide_eq_false (show ¬ V.int ((xs.length : Nat) : Int) = V.int 2 from fun e => l2 (by have := V.int.inj e; omega))]
    have := q _ (Same.refl _)
    rw [e0] at this
    exact iteF this
  rw [decide_eq_true (show V.int ((xs.length : Nat) : Int) = V.int 2 by rw [lx, l2]; rfl)]
  refine iteT ?_
  obtain ⟨d0, d1, rfl⟩ : ∃ d0 d1, ds = [d0, d1] := by
    match ds, l2 with
    | [d0, d1], _ => exact ⟨d0, d1, rfl⟩
  have w0 := weight_mem (ds := [d0, d1]) (d := d0) (by simp)
  simp only [TrAll] at tx
  obtain ⟨x0, r0, rfl, tx0, x1, r1, rfl, tx1, e0⟩ := tx
  subst e0
  exact ⟨_, rfl, t, _, 0, _, rfl, rfl, ht.sq, atI_nat (j := 0) rfl, x0, bad, d0, rfl, tx0, by omega, q⟩
abbrev sAreLinks : Stmt := topS 18
abbrev nAreLinks : List Str := ["thing", "link"]
theorem scAreLinks : FnScope nAreLinks ["thing"] (defScope sAreLinks) := ⟨rfl, rfl, rfl, by decide +kernel, rfl, by decide +kernel, by decide +kernel⟩
theorem ok_areLinksD {f : Addr} {fd : FuncData} (B : Blt mg) (CL : Cal P w K mg base 2 "is_link" ["thing"] spLinkD) (F : Fun K "are_links" "are_links" sAreLinks f fd) : FnOk P w K mg base CX0 3 f fd ["thing"] spLinksD := by
  refine fok F scAreLinks (fun vs H Q E h => ?_) (fun cdv A outer s H vs Q E hr h => ?_)
  · obtain ⟨v, bad, d, rfl, _⟩ := h
    rfl
  refine ⟨_, pss_cons (ps_if (PW.pt (pw_or (pt_not (pt_val (pe_callB call_isi (by rfl) B.isinstance (by decide +kernel) (pa_cons (pv 0) (pa_cons (pe_bltn (v := .ty "list") (by rfl) B.list (by decide +kernel) rfl) pa_nil))))) (pw_or (pt_not (pt_truth (pv 0) (by intro _; rfl))) (pw_or1 (pt_not (pt_val (pe_callB (cr_all rfl) (by rfl) B.all (by decide +kernel) (pa_cons (pe_lc (own := [("link", 1)]) (g := gName 1) (tt := tYes) (te := tCall spLinkD [] E0 (tCons (tVar 1) tNil)) rfl scAreLinks.nd (pi_list (pv 0)) (blkOk_by (N := nAreLinks) (sc := defScope sAreLinks) (by decide +kernel))
        (fun _ _ _ _ _ => pg_name (i := 1) scAreLinks.nd rfl (Or.inl rfl)) (fun _ _ _ _ _ => pts_nil) (fun _ _ _ _ _ => pe_cal CL hr (pa_cons (pv 1) pa_nil))) pa_nil)))))))) (pss_one (ps_ret pe_bl)) pss_nil)
    (pss_one (ps_ret (pe_cmpR op_eq (pe_lenStrsD rfl (by rfl) B.len (by rfl) B.set (pe_lc (own := [("link", 1)]) (g := gName 1) (tt := tYes) (te := tOp (rIxT K) (tVar 1) (tC (.int 0))) rfl scAreLinks.nd (pi_list (pv 0)) (blkOk_by (N := nAreLinks) (sc := defScope sAreLinks) (by decide +kernel))
        (fun _ _ _ _ _ => pg_name (i := 1) scAreLinks.nd rfl (Or.inl rfl)) (fun _ _ _ _ _ => pts_nil) (fun _ _ _ _ _ => pe_ix ix_tup (pv 1) pe_int (fun _ _ => rfl)))) (pe_callB call_len_seq (by rfl) B.len PySem.boot_len (pa_cons (pv 0) pa_nil)) (nomark _)))), ?_⟩
  obtain ⟨v, bad, d, rfl, tr, wt, hn, q⟩ := h
  refine ⟨_, rfl, _, _, _, _, _, rfl, .ty _, tr.ty, isi_L d, _, rfl, ?_⟩
  cases d with
  | none => exact q _ (Same.refl _)
  | bool _ => exact q _ (Same.refl _)
  | int _ => exact q _ (Same.refl _)
  | str _ => exact q _ (Same.refl _)
  | tuple _ => exact q _ (Same.refl _)
  | dict _ => simp only [Tr] at tr
  | list ds =>
  have hn : ds.length ≤ 90 := hn
  have wt : PyData.weightAll ds ≤ 10000 := by simpa only [PyData.weight] using wt
  have q : ∀ H', Same H H' → Q (.bl (decide (ds ≠ []) && (ds.all linkB && decide (ds.map lkN).Nodup))) H' := q
  simp only [Tr] at tr
  obtain ⟨p, xs, rfl, np, hp, tx⟩ := tr
  have lx := tx.len
  by_cases ne : ds = []
  · subst ne
    have : xs = [] := List.length_eq_zero_iff.mp lx
    subst this
    exact ⟨_, rfl, false, .inl ⟨_, .inl (.inl hp), rfl⟩, q _ (Same.refl _)⟩
  have q : ∀ H', Same H H' → Q (.bl (ds.all linkB && decide (ds.map lkN).Nodup)) H' := fun H' s => by
    have := q H' s
    rw [decide_eq_true ne, Bool.true_and] at this
    exact this
  refine ⟨_, rfl, true, .inl ⟨_, .inl (.inl hp), ?_⟩, ?_⟩
  · cases xs with
    | nil => exact absurd (List.length_eq_zero_iff.mp lx.symm) ne
    | cons c l => rfl
  refine ⟨_, rfl, p, rfl, ⟨_, .inl (.inl hp)⟩, fun D hD => ?_⟩
  refine lc_vals (walk_list (xs := xs)) (fun i => .bl (linkB (ds.getD i .none))) (by omega) hD (fun H' s => .inl (.inl (s _ _ hp))) ?_ ?_
  · rintro j v H1 H1' kk hj s1 ⟨rfl, ex⟩ k1
    have hj' : j < ds.length := by omega
    have ed := List.getElem?_eq_getElem hj'
    have t1 := (tx.at ed ex).same s1
    have e2 : ds.getD j .none = ds[j] := by rw [List.getD_eq_getElem?_getD, ed]; rfl
    have w1 := weight_mem (List.mem_of_getElem? ed)
    rw [← e2] at t1 w1
    exact ⟨rfl, _, rfl, v, bad, _, rfl, t1, by omega, k1⟩
  intro H2 s2 e2
  have eb : (List.range xs.length).map (fun i => V.bl (linkB (ds.getD i .none))) = ((List.range ds.length).map fun i => linkB (ds.getD i .none)).map V.bl := by rw [List.map_map, lx]; rfl
  rw [eb] at e2
  refine ⟨D, _, rfl, .inl (.inl e2), _, rfl, ?_⟩
  rw [range_map linkB ds _ (fun i x e => by rw [List.getD_eq_getElem?_getD, e]; rfl)]
  cases ea : ds.all linkB with
  | false =>
    have fin := q H2 s2
    rw [ea, Bool.false_and] at fin
    exact fin
  | true =>
    have good := List.all_eq_true.mp ea
    have p2 := s2 _ _ hp
    have tx2 := tx.same s2
    refine ⟨_, rfl, p, rfl, ⟨_, .inl (.inl p2)⟩, fun L hL => ?_⟩
    refine lc_strs (walk_list (xs := xs)) (ds.map lkN) (by rw [List.length_map]; omega) (by omega) hL (fun H' s => .inl (.inl (s _ _ p2))) ?_ ?_
    · rintro i x v H3 H3' k hx s3 ⟨rfl, ex⟩ hk
      obtain ⟨d1, hd1, rfl⟩ := at_map2 hx
      obtain ⟨T, x1, rfl, hT, _⟩ := pair_at (link_pair (good d1 (List.mem_of_getElem? hd1))) ((tx2.at hd1 ex).same s3)
      exact ⟨rfl, _, rfl, T, _, 0, _, rfl, rfl, hT.sq, atI_nat (j := 0) rfl, hk _ (Same.refl _)⟩
    · intro H3 s3 d3
      refine ⟨L, _, rfl, d3, by rw [List.length_map]; omega, fun us nu mu => ⟨_, rfl, p, _, rfl, .inl (.inl (.inl (s3 _ _ p2))), rfl, ?_⟩⟩
      have fin := q H3 (s2.trans s3)
      rw [ea, Bool.true_and, ← set_len nu mu, List.length_map, ← lx] at fin
      exact fin
/-! ### each_bars_the_next -/
abbrev sEachB : Stmt := topS 19
abbrev nEachX : List Str := ["friends", "row", "links", "last", "known", "nexts", "link", "other"]
abbrev pEachX : List Str := ["friends", "row", "links", "last"]
theorem scEachX : FnScope nEachX pEachX (defScope sEachB) := ⟨rfl, rfl, rfl, by decide +kernel, rfl, by decide +kernel, by decide +kernel⟩
-- slots: 0:friends 1:row* 2:links 3:last 4:known* 5:nexts 6:link 7:other
theorem ok_eachX {f : Addr} {fd : FuncData} (B : Blt mg) (CBw : Cal P w K mg base 2 "bar_words" ["known", "row", "one", "other"] spBarWX) (CBo : Cal P w K mg base 1 "both_ways" ["friends"] spBoth) (F : Fun K "each_bars_the_next" "each_bars_the_next" sEachB f fd) : FnOk P w K mg base CX0 3 f fd pEachX spEachX := by
  refine fok F scEachX (fun vs H Q E h => ?_) (fun cdv A outer s H vs Q E hr h => ?_)
  · obtain ⟨a, r, t, last, bad, ps, row, ds, xs, n, rfl, _⟩ := h
    rfl
  have hu := hu_of hr
  refine ⟨_, pss_cons (ps_set (i := 4) scEachX.nd rfl (.inr rfl) (pe_cal CBo hr (pa_cons (pv 0) pa_nil)))
    (pss_cons (ps_set (i := 5) scEachX.nd rfl (.inl rfl) (pe_op op_cat (pe_lc (own := [("link", 6)]) (g := gName 6) (tt := tYes) (te := tOp (rIxT K) (tVar 6) (tC (.int 0))) rfl scEachX.nd (pi_list (pe_slice sl_list (pv 2) (po_some pe_int) po_none)) (blkOk_by (N := nEachX) (sc := defScope sEachB) (by decide +kernel)) (fun _ _ _ _ _ => pg_name (i := 6) scEachX.nd rfl (Or.inl rfl)) (fun _ _ _ _ _ => pts_nil) (fun _ _ _ _ _ => pe_ix ix_tup (pv 6) pe_int (fun _ _ => rfl))) (pe_lst (pa_cons (pv 3) pa_nil))))
    (pss_one (ps_ret (pe_callB (cr_all rfl) (by rfl) B.all (by decide +kernel) (pa_cons (pe_lc (own := [("link", 6), ("other", 7)]) (g := gTup K 2 (gCons (gName 6) (gCons (gName 7) gNil))) (tt := tYes) (te := tOp (rInD K) (tOp (rIxT K) (tVar 6) (tC (.int 1))) (tCall spBarWX [] E0 (tCons (tVar 4) (tCons (tVar 1) (tCons (tOp (rIxT K) (tVar 6) (tC (.int 0))) (tCons (tVar 7) tNil)))))) rfl scEachX.nd (pi_zip (by rfl) B.zip (pa_cons (pv 2) (pa_cons (pv 5) pa_nil))) (blkOk_by (N := nEachX) (sc := defScope sEachB) (by decide +kernel)) (fun _ _ _ _ _ => pg_tup rfl (pgs_cons (pg_name (i := 6) scEachX.nd rfl (Or.inl rfl)) (pgs_cons (pg_name (i := 7) scEachX.nd rfl (Or.inl rfl)) pgs_nil))) (fun _ _ _ _ _ => pts_nil) (fun _ _ _ _ _ => pe_cmpR (op_inD (u65 hr)) (pe_ix ix_tup (pv 6) pe_int (fun _ _ => rfl)) (pe_cal CBw hr (pa_cons (pv 4) (pa_cons (pv 1) (pa_cons (pe_ix ix_tup (pv 6) pe_int (fun _ _ => rfl)) (pa_cons (pv 7) pa_nil))))) (by rfl))) pa_nil))))), ?_⟩
  obtain ⟨a, r, t, last, bad, ps, row, ds, xs, n, rfl, ha, hpl, hr0, ln, nd, ht, tx, pr, ne, hn, oks, hn60, q⟩ := h
  have lx := tx.len
  refine ⟨_, rfl, a, ps, rfl, ha, hpl, fun k H1 s1 nk hk => ?_⟩
  have t1 := s1 _ _ ht
  have tx1 := tx.same s1
  refine ⟨_, rfl, _, rfl, t, _, rfl, .inl (.inl t1), fun l hl => ?_⟩
  have c1 : cutV xs (some 1) none = xs.drop 1 := cutL_from xs 1
  rw [c1]
  have s2 := same_upd (o := .lst (xs.drop 1)) hl
  have e2 : upd H1 l (.lst (xs.drop 1)) l = some (.lst (xs.drop 1)) := upd_same
  have tx2 := (tx1.drop 1).same s2
  generalize upd H1 l (.lst (xs.drop 1)) = H2 at s2 e2 tx2 ⊢
  refine ⟨l, rfl, ⟨_, .inl (.inl e2)⟩, fun D hD => ?_⟩
  have ld : (xs.drop 1).length = ds.length - 1 := by rw [List.length_drop, lx]
  refine lc_strs (walk_list (xs := xs.drop 1)) ((ds.drop 1).map lkN) (by rw [List.length_map, List.length_drop]; omega) (by omega) hD (fun H' s => .inl (.inl (s _ _ e2))) ?_ ?_
  · rintro i x v H3 H3' k' hx s3 ⟨rfl, ex⟩ hk'
    obtain ⟨d1, hd1, rfl⟩ := at_map2 hx
    obtain ⟨T, x1, rfl, hT, _⟩ := pair_at (pr d1 (List.mem_of_mem_drop (List.mem_of_getElem? hd1))) ((tx2.at hd1 ex).same s3)
    exact ⟨rfl, _, rfl, T, _, 0, _, rfl, rfl, hT.sq, atI_nat (j := 0) rfl, hk' _ (Same.refl _)⟩
  intro H3 s3 e3
  refine ⟨_, rfl, (by show 1 ≤ sizeLine; decide), fun l1 hl1 => ?_⟩
  have s4 := same_upd (o := .lst [.str last]) hl1
  have e4 : upd H3 l1 (.lst [.str last]) l1 = some (.lst [.str last]) := upd_same
  generalize upd H3 l1 (.lst [.str last]) = H4 at s4 e4 ⊢
  refine ⟨D, l1, _, _, rfl, rfl, s4 _ _ e3, e4, small_le (by rw [List.length_map, List.length_map, List.length_drop]; show _ + 1 ≤ _; omega), fun m hm => ?_⟩
  have s5 := same_upd (o := .lst (((ds.drop 1).map lkN).map V.str ++ [.str last])) hm
  have e5 : upd H4 m (.lst (((ds.drop 1).map lkN).map V.str ++ [.str last])) m = some (.lst ((nextsX ds last).map V.str)) := by
    rw [upd_same]
    unfold nextsX
    rw [List.map_append]
    rfl
  generalize upd H4 m (.lst (((ds.drop 1).map lkN).map V.str ++ [.str last])) = H5 at s5 e5 ⊢
  have s15 := ((s2.trans s3).trans s4).trans s5
  have t5 := s15 _ _ t1
  have tx5 := tx1.same s15
  have nl := nexts_len ds last ne
  refine ⟨_, rfl, _, rfl, t, m, _, _, rfl, .inl (.inl t5), .inl (.inl e5), fun L hL => ?_⟩
  refine lc_list (walk_zip (xs := xs) (ys := (nextsX ds last).map V.str) (n := xs.length) (by rw [List.length_map]; omega)) (ds.zip (nextsX ds last)) (fun z => .bl (onB ps row (lkN z.1) (lkW z.1) z.2)) (by rw [List.length_zip]; omega) (by omega) hL (fun H' s => ⟨.inl (.inl (s _ _ t5)), .inl (.inl (s _ _ e5))⟩) ?_ ?_
  · rintro i z v H6 H6' kk hz s6 ⟨T, u1, u2, rfl, nT, rfl, f1, f2⟩ hkk
    obtain ⟨z1, z2⟩ := List.getElem?_zip_eq_some.mp hz
    have md := List.mem_of_getElem? z1
    obtain ⟨y, hy, rfl⟩ := at_map f2
    obtain rfl : y = z.2 := Option.some.inj (hy.symm.trans z2)
    have sT := same_upd (o := .tup [u1, .str z.2]) nT
    have s57 := s6.trans sT
    obtain ⟨T1, x1, rfl, hT, tw⟩ := pair_at (pr _ md) ((tx5.at z1 f1).same s57)
    refine ⟨T, _, rfl, .inl (.inl upd_same), rfl, _, _, rfl, _, _, rfl, rfl, rfl, ?_⟩
    have s17 := s15.trans s57
    refine ⟨_, rfl, T1, _, 1, _, rfl, rfl, hT.sq, atI_nat (j := 1) rfl, _, rfl, _, rfl, _, rfl, T1, _, 0, _, rfl, rfl, hT.sq, atI_nat (j := 0) rfl, _, rfl, k, r, ps, row, lkN z.1, z.2, rfl, hk.same s17, hr0.same (s1.trans s17), ln, nd, fun p H8 s8 np e8 => ?_⟩
    have okw : SeqAt.shaped (lkW z.1) = true := by
      have o := oks.1 _ md
      rw [pair_form (pr _ md)] at o
      obtain ⟨n', rfl⟩ := okd_deep (.inr o)
      have o2 := (okd_items (.inr o)).1 (lkW z.1) (by simp)
      exact shaped_of o2 (by omega)
    refine ⟨lkW z.1, (wordsX ps row (lkN z.1) z.2).map .str, (tw.same s8).dp, .lst (.inl (.inl e8)) (TrAll.dp (TrAll.strs (bad := fun _ => False) _)), okw, words_shaped, ?_⟩
    rw [any_on]
    exact hkk _ (sT.trans s8)
  intro H6 s6 e6
  rw [bools_map (fun z : PyData × Str => onB ps row (lkN z.1) (lkW z.1) z.2)] at e6
  refine ⟨L, _, rfl, .inl (.inl e6), ?_⟩
  have fin := q H6 ((s1.trans s15).trans s6)
  rw [List.all_map]
  exact fin
/-! ### shows_order, shows_ring, shows_chain of any thing -/
abbrev sShowsO : Stmt := topS 16
abbrev nShowsO : List Str := ["friends", "row", "thing"]
abbrev pShowsO : List Str := ["friends", "row", "thing"]
theorem scShowsO : FnScope nShowsO pShowsO (defScope sShowsO) := ⟨rfl, rfl, rfl, by decide +kernel, rfl, by decide +kernel, by decide +kernel⟩
theorem ok_showsOX {f : Addr} {fd : FuncData} (B : Blt mg) (CRw : Cal P w K mg base 2 "is_row" ["thing"] spRowD) (CRo : Cal P w K mg base 5 "row_of" ["friends", "order"] spRowOf) (F : Fun K "shows_order" "shows_order" sShowsO f fd) : FnOk P w K mg base CX0 6 f fd pShowsO spShOX := by
  refine fok F scShowsO (fun vs H Q E h => ?_) (fun cdv A outer s H vs Q E hr h => ?_)
  · obtain ⟨a, r, v, bad, ps, row, d, rfl, _⟩ := h
    rfl
  have hu := hu_of hr
  refine ⟨_, pss_cons (ps_if (PW.pt (pw_or (pt_not (pt_val (pe_callB call_isi (by rfl) B.isinstance (by decide +kernel) (pa_cons (pv 2) (pa_cons (pe_bltn (v := .ty "list") (by rfl) B.list (by decide +kernel) rfl) pa_nil))))) (pw_or1 (pt_not (pt_val (pe_cal CRw hr (pa_cons (pe_callTy call_tupleF (by rfl) B.tuple (by decide +kernel) (pa_cons (pv 2) pa_nil)) pa_nil)))))))
      (pss_one (ps_ret pe_bl))
      pss_nil)
    (pss_one (ps_ret (pe_cmpR (op_eqT hr.units) (pe_cal CRo hr (pa_cons (pv 0) (pa_cons (pv 2) pa_nil))) (pe_callTy call_tupRow (by rfl) B.tuple (by decide +kernel) (pa_cons (pv 1) pa_nil)) (nomark _)))), ?_⟩
  obtain ⟨a, r, v, bad, ps, row, d, rfl, ha, hpl, hr0, gr, tr, wt, hn, q⟩ := h
  refine ⟨_, rfl, _, _, _, _, _, rfl, .ty _, tr.ty, isi_L d, _, rfl, ?_⟩
  cases d with
  | none => exact q _ (Same.refl _)
  | bool _ => exact q _ (Same.refl _)
  | int _ => exact q _ (Same.refl _)
  | str _ => exact q _ (Same.refl _)
  | tuple _ => exact q _ (Same.refl _)
  | dict _ => simp only [Tr] at tr
  | list ds =>
  have hn : ds.length ≤ 90 := hn
  have q : ∀ H', Same H H' → Q (.bl (rowDB (.tuple ds) && decide (standOf ps (ds.map strPD) = row))) H' := q
  simp only [Tr] at tr
  obtain ⟨p, xs, rfl, np, hp, tx⟩ := tr
  refine ⟨_, rfl, p, _, rfl, .inl ⟨.inl (.inl hp), fun t H1 s1 n1 t1 => ?_⟩⟩
  refine ⟨.ref t, fun _ => False, .tuple ds, rfl, ?_, by simpa only [PyData.weight] using wt, hn, fun H2 s2 => ⟨_, rfl, ?_⟩⟩
  · simp only [Tr]
    exact ⟨t, xs, rfl, fun z => z, .inr t1, (tx.same s1).mono fun _ z => z.elim⟩
  have s12 := s1.trans s2
  cases e : rowDB (.tuple ds) with
  | false =>
    have fin := q H2 s12
    rw [e, Bool.false_and] at fin
    exact fin
  | true =>
    have q : ∀ H', Same H H' → Q (.bl (decide (standOf ps (ds.map strPD) = row))) H' := fun H' s => by
      have := q H' s
      rw [e, Bool.true_and] at this
      exact this
    have e : (ds.all nmB && decide (ds.map strPD).Nodup) = true := e
    obtain ⟨e1, e2⟩ := (Bool.and_eq_true _ _).mp e
    obtain ⟨f1, f2⟩ := nms_str e1
    have tx' := tx
    rw [f1] at tx'
    have exs := tx'.strs_eq
    subst exs
    refine ⟨_, rfl, _, rfl, a, p, ps, ds.map strPD, rfl, ha.same s12, hpl, .inr (s12 _ _ hp), of_decide_eq_true e2, by rw [List.length_map]; omega, fun t3 H3 s3 e3 => ?_⟩
    refine ⟨.ref r, rfl, r, row, rfl, hr0.same (s12.trans s3), fun t4 H4 s4 e4 => ?_⟩
    have go : Goods (ds.map strPD) := fun x hx => (f2 x hx).good
    exact ⟨t3, t4, _, _, rfl, rfl, e3.same s4, e4, go.perm (stand_perm ps _), gr, q H4 ((s12.trans s3).trans s4)⟩
abbrev sShowsR : Stmt := topS 20
abbrev nShowsR : List Str := ["friends", "row", "thing"]
abbrev pShowsR : List Str := ["friends", "row", "thing"]
theorem scShowsR : FnScope nShowsR pShowsR (defScope sShowsR) := ⟨rfl, rfl, rfl, by decide +kernel, rfl, by decide +kernel, by decide +kernel⟩
theorem ok_showsRX {f : Addr} {fd : FuncData} (B : Blt mg) (CAl : Cal P w K mg base 3 "are_links" ["thing"] spLinksD) (CEb : Cal P w K mg base 3 "each_bars_the_next" ["friends", "row", "links", "last"] spEachX) (F : Fun K "shows_ring" "shows_ring" sShowsR f fd) : FnOk P w K mg base CX0 4 f fd pShowsR spShRX := by
  refine fok F scShowsR (fun vs H Q E h => ?_) (fun cdv A outer s H vs Q E hr h => ?_)
  · obtain ⟨a, r, v, bad, ps, row, d, n, rfl, _⟩ := h
    rfl
  have hu := hu_of hr
  refine ⟨_, pss_cons (ps_if (PW.pt (pw_or (pt_not (pt_val (pe_cal CAl hr (pa_cons (pv 2) pa_nil)))) (pw_or1 (pt_cmpR op_lt (pe_callB call_len_seq (by rfl) B.len PySem.boot_len (pa_cons (pv 2) pa_nil)) pe_int (nomark _)))))
      (pss_one (ps_ret pe_bl))
      pss_nil)
    (pss_one (ps_ret (pe_cal CEb hr (pa_cons (pv 0) (pa_cons (pv 1) (pa_cons (pv 2) (pa_cons (pe_ix ix_tup (pe_ix ix_list (pv 2) pe_int (fun _ _ => rfl)) pe_int (fun _ _ => rfl)) pa_nil))))))), ?_⟩
  obtain ⟨a, r, v, bad, ps, row, d, n, rfl, ha, hpl, hr0, ln, nd, tr, ok, n60, hn, q⟩ := h
  refine ⟨_, rfl, v, bad, d, rfl, tr, ok.fit.wt, hn, fun H1 s1 => ⟨_, rfl, ?_⟩⟩
  cases e : linksB d with
  | false =>
    have e0 : ringP ps row d = false := by
      cases d with
      | list ds =>
        show (linksB (.list ds) && _) = false
        rw [e, Bool.false_and]
      | _ => rfl
    have fin := q H1 s1
    rw [e0] at fin
    exact fin
  | true =>
  match d, e, tr, ok, hn, q with
  | .list ds, e, tr, ok, hn, q =>
  have hn : ds.length ≤ 90 := hn
  have q : ∀ H', Same H H' → Q (.bl (decide (2 ≤ ds.length) && onsB ps row ds (lkN (ds.getD 0 .none)))) H' := fun H' s => by
    have := q H' s
    have e1 : ringP ps row (.list ds) = (linksB (.list ds) && (decide (2 ≤ ds.length) && onsB ps row ds (lkN (ds.getD 0 .none)))) := rfl
    rw [e1, e, Bool.true_and] at this
    exact this
  have e : (decide (ds ≠ []) && (ds.all linkB && decide (ds.map lkN).Nodup)) = true := e
  obtain ⟨e1, e2⟩ := (Bool.and_eq_true _ _).mp e
  obtain ⟨e3, e4⟩ := (Bool.and_eq_true _ _).mp e2
  have pr : ∀ d ∈ ds, PairL d := fun d hd => link_pair (List.all_eq_true.mp e3 d hd)
  obtain ⟨m, rfl⟩ := okd_deep (.inl ok)
  have okl := okd_items (.inl ok)
  simp only [Tr] at tr
  obtain ⟨p, xs, rfl, np, hp, tx⟩ := tr
  have lx := tx.len
  have p1 := s1 _ _ hp
  refine ⟨_, rfl, p, _, rfl, .inl (.inl (.inl p1)), _, _, rfl, rfl, _, rfl, ?_⟩
  rw [lx]
  refine ite2 (fun c => ?_) (fun c => ?_)
  · have c := of_decide_eq_true c
    have fin := q H1 s1
    rw [decide_eq_false (show ¬ 2 ≤ ds.length by omega), Bool.false_and] at fin
    exact fin
  have c : 2 ≤ ds.length := by
    have := of_decide_eq_false (Bool.eq_false_iff.mpr c)
    omega
  have i0 : 0 < ds.length := by omega
  have ed := List.getElem?_eq_getElem i0
  have ex := List.getElem?_eq_getElem (l := xs) (i := 0) (by omega)
  have g0 : ds.getD 0 .none = ds[0] := by rw [List.getD_eq_getElem?_getD, ed]; rfl
  have md := List.mem_of_getElem? ed
  have tx1 := tx.same s1
  obtain ⟨T, x1, hv, hT, _⟩ := pair_at (pr _ md) (tx1.at ed ex)
  rw [hv] at ex
  refine ⟨_, rfl, _, rfl, _, rfl, _, rfl, p, _, 0, _, rfl, rfl, .inl (.inl p1), atI_nat (j := 0) ex, T, _, 0, _, rfl, rfl, hT.sq, atI_nat (j := 0) rfl, ?_⟩
  refine ⟨a, r, p, _, bad, ps, row, ds, xs, m, rfl, ha.same s1, hpl, hr0.same s1, ln, nd, p1, tx1, pr, of_decide_eq_true e1, hn, okl, by omega, fun H2 s2 => ?_⟩
  have fin := q H2 (s1.trans s2)
  rw [decide_eq_true c, Bool.true_and, g0] at fin
  exact fin
abbrev sShowsC : Stmt := topS 21
abbrev nShowsC : List Str := ["friends", "row", "one", "other", "thing", "link"]
abbrev pShowsC : List Str := ["friends", "row", "one", "other", "thing"]
theorem scShowsC : FnScope nShowsC pShowsC (defScope sShowsC) := ⟨rfl, rfl, rfl, by decide +kernel, rfl, by decide +kernel, by decide +kernel⟩
theorem ok_showsCX {f : Addr} {fd : FuncData} (B : Blt mg) (CAl : Cal P w K mg base 3 "are_links" ["thing"] spLinksD) (CEb : Cal P w K mg base 3 "each_bars_the_next" ["friends", "row", "links", "last"] spEachX) (F : Fun K "shows_chain" "shows_chain" sShowsC f fd) : FnOk P w K mg base CX0 4 f fd pShowsC spShCX := by
  refine fok F scShowsC (fun vs H Q E h => ?_) (fun cdv A outer s H vs Q E hr h => ?_)
  · obtain ⟨a, r, one, other, v, bad, ps, row, d, n, rfl, _⟩ := h
    rfl
  have hu := hu_of hr
  refine ⟨_, pss_cons (ps_if (PW.pt (pw_or (pt_not (pt_val (pe_cal CAl hr (pa_cons (pv 4) pa_nil)))) (pw_or1 (pt_cmpR op_ne (pe_ix ix_tup (pe_ix ix_list (pv 4) pe_int (fun _ _ => rfl)) pe_int (fun _ _ => rfl)) (pv 2) (nomark _)))))
      (pss_one (ps_ret pe_bl))
      pss_nil)
    (pss_cons (ps_if (pt_cmpR op_in_seq (pv 3) (pe_lc (own := [("link", 5)]) (g := gName 5) (tt := tYes) (te := tOp (rIxT K) (tVar 5) (tC (.int 0))) rfl scShowsC.nd (pi_list (pv 4)) (blkOk_by (N := nShowsC) (sc := defScope sShowsC) (by decide +kernel)) (fun _ _ _ _ _ => pg_name (i := 5) scShowsC.nd rfl (Or.inl rfl)) (fun _ _ _ _ _ => pts_nil) (fun _ _ _ _ _ => pe_ix ix_tup (pv 5) pe_int (fun _ _ => rfl))) (by rfl))
      (pss_one (ps_ret pe_bl))
      pss_nil)
    (pss_one (ps_ret (pe_cal CEb hr (pa_cons (pv 0) (pa_cons (pv 1) (pa_cons (pv 4) (pa_cons (pv 3) pa_nil)))))))), ?_⟩
  obtain ⟨a, r, one, other, v, bad, ps, row, d, n, rfl, ha, hpl, hr0, ln, nd, tr, ok, n60, hn, q⟩ := h
  refine ⟨_, rfl, v, bad, d, rfl, tr, ok.fit.wt, hn, fun H1 s1 => ⟨_, rfl, ?_⟩⟩
  cases e : linksB d with
  | false =>
    have e0 : chainP ps row one other d = false := by
      cases d with
      | list ds =>
        show (linksB (.list ds) && _) = false
        rw [e, Bool.false_and]
      | _ => rfl
    have fin := q H1 s1
    rw [e0] at fin
    exact fin
  | true =>
  match d, e, tr, ok, hn, q with
  | .list ds, e, tr, ok, hn, q =>
  have hn : ds.length ≤ 90 := hn
  have q : ∀ H', Same H H' → Q (.bl (decide (lkN (ds.getD 0 .none) = one) && (!decide (other ∈ ds.map lkN) && onsB ps row ds other))) H' := fun H' s => by
    have := q H' s
    have e1 : chainP ps row one other (.list ds) = (linksB (.list ds) && (decide (lkN (ds.getD 0 .none) = one) && (!decide (other ∈ ds.map lkN) && onsB ps row ds other))) := rfl
    rw [e1, e, Bool.true_and] at this
    exact this
  have e : (decide (ds ≠ []) && (ds.all linkB && decide (ds.map lkN).Nodup)) = true := e
  obtain ⟨e1, e2⟩ := (Bool.and_eq_true _ _).mp e
  obtain ⟨e3, e4⟩ := (Bool.and_eq_true _ _).mp e2
  have pr : ∀ d ∈ ds, PairL d := fun d hd => link_pair (List.all_eq_true.mp e3 d hd)
  obtain ⟨m, rfl⟩ := okd_deep (.inl ok)
  have okl := okd_items (.inl ok)
  simp only [Tr] at tr
  obtain ⟨p, xs, rfl, np, hp, tx⟩ := tr
  have lx := tx.len
  have p1 := s1 _ _ hp
  have i0 : 0 < ds.length := List.length_pos_iff.mpr (of_decide_eq_true e1)
  have ed := List.getElem?_eq_getElem i0
  have ex := List.getElem?_eq_getElem (l := xs) (i := 0) (by omega)
  have g0 : ds.getD 0 .none = ds[0] := by rw [List.getD_eq_getElem?_getD, ed]; rfl
  have md := List.mem_of_getElem? ed
  have tx1 := tx.same s1
  obtain ⟨T, x1, hv, hT, _⟩ := pair_at (pr _ md) (tx1.at ed ex)
  rw [hv] at ex
  refine ⟨_, rfl, p, _, 0, _, rfl, rfl, .inl (.inl p1), atI_nat (j := 0) ex, T, _, 0, _, rfl, rfl, hT.sq, atI_nat (j := 0) rfl, _, rfl, rfl, _, rfl, ?_⟩
  rw [g0] at q
  have dv : decide (V.str (lkN ds[0]) = V.str one) = decide (lkN ds[0] = one) := by
    rw [Bool.eq_iff_iff, decide_eq_true_iff, decide_eq_true_iff]
    exact ⟨V.str.inj, fun z => z ▸ rfl⟩
  rw [dv]
  refine ite2 (fun c => ?_) (fun c => ?_)
  · have fin := q H1 s1
    have c : decide (lkN ds[0] = one) = false := by
      cases z : decide (lkN ds[0] = one) with
      | false => rfl
      | true => rw [z] at c; cases c
    rw [c, Bool.false_and] at fin
    exact fin
  have c : decide (lkN ds[0] = one) = true := by
    cases z : decide (lkN ds[0] = one) with
    | true => rfl
    | false => rw [z] at c; exact absurd rfl c
  rw [c, Bool.true_and] at q
  refine ⟨_, rfl, _, rfl, p, rfl, ⟨_, .inl (.inl p1)⟩, fun L hL => ?_⟩
  refine lc_strs (walk_list (xs := xs)) (ds.map lkN) (by rw [List.length_map]; omega) (by omega) hL (fun H' s => .inl (.inl (s _ _ p1))) ?_ ?_
  · rintro i x v H3 H3' k hx s3 ⟨rfl, ex⟩ hk
    obtain ⟨d1, hd1, rfl⟩ := at_map2 hx
    obtain ⟨T, x1, rfl, hT, _⟩ := pair_at (pr d1 (List.mem_of_getElem? hd1)) ((tx1.at hd1 ex).same s3)
    exact ⟨rfl, _, rfl, T, _, 0, _, rfl, rfl, hT.sq, atI_nat (j := 0) rfl, hk _ (Same.refl _)⟩
  intro H3 s3 e3'
  have s13 := s1.trans s3
  refine ⟨L, _, rfl, .inl (.inl (.inl e3')), rfl, flat_strs _, ?_⟩
  rw [inV_strs]
  refine ⟨_, rfl, ?_⟩
  cases b : decide (other ∈ ds.map lkN) with
  | true =>
    have fin := q H3 s13
    rw [b] at fin
    exact fin
  | false =>
    refine ⟨_, rfl, _, rfl, _, rfl, _, rfl, a, r, p, _, bad, ps, row, ds, xs, m, rfl, ha.same s13, hpl, hr0.same s13, ln, nd, s13 _ _ hp, tx.same s13, pr, of_decide_eq_true e1, hn, okl, by omega, fun H4 s4 => ?_⟩
    have fin := q H4 (s13.trans s4)
    rw [b] at fin
    exact fin
/-! ### _law_is_steps -/
abbrev sIsSteps : Stmt := topS 49
abbrev nIsSteps : List Str := ["_law_pals_here", "_law_stand", "_law_matter", "_law_step"]
abbrev pIsSteps : List Str := ["_law_pals_here", "_law_stand", "_law_matter"]
theorem scIsSteps : FnScope nIsSteps pIsSteps (defScope sIsSteps) := ⟨rfl, rfl, rfl, by decide +kernel, rfl, by decide +kernel, by decide +kernel⟩
theorem ok_isSteps {f : Addr} {fd : FuncData} (B : Blt mg) (F : Fun K "_law_is_steps" "_law_is_steps" sIsSteps f fd) : FnOk P w K mg base CX0 1 f fd pIsSteps spStepsX := by
  refine fok F scIsSteps (fun vs H Q E h => ?_) (fun cdv A outer s H vs Q E hr h => ?_)
  · obtain ⟨a, t, v, bad, stand, d, rfl, _⟩ := h
    rfl
  have hu := hu_of hr
  refine ⟨_, pss_cons (ps_if (PW.pt (pw_or (pt_not (pt_val (pe_callB call_isi (by rfl) B.isinstance (by decide +kernel) (pa_cons (pv 2) (pa_cons (pe_bltn (v := .ty "list") (by rfl) B.list (by decide +kernel) rfl) pa_nil))))) (pw_or1 (pt_not (pt_val (pe_callB (cr_all rfl) (by rfl) B.all (by decide +kernel) (pa_cons (pe_lc (own := [("_law_step", 3)]) (g := gName 3) (tt := tYes) (te := tAndV (tCB (rIsi K) (tCons (tVar 3) (tCons (tC (.ty "tuple")) tNil))) (tOp rEq (tCB (fun xs H Q => ∃ p ys, xs = [.ref p] ∧ (SqL K H p ys ∨ SqT K H p ys) ∧ Q (.int ys.length) H) (tCons (tVar 3) tNil)) (tC (.int 2)))) rfl scIsSteps.nd (pi_list (pv 2)) (blkOk_by (N := nIsSteps) (sc := defScope sIsSteps) (by decide +kernel)) (fun _ _ _ _ _ => pg_name (i := 3) scIsSteps.nd rfl (Or.inl rfl)) (fun _ _ _ _ _ => pts_nil) (fun _ _ _ _ _ => pe_and (pe_callB call_isi (by rfl) B.isinstance (by decide +kernel) (pa_cons (pv 3) (pa_cons (pe_bltn (v := .ty "tuple") (by rfl) B.tuple (by decide +kernel) rfl) pa_nil))) (pe_one (pe_cmpR op_eq (pe_callB call_len_seq (by rfl) B.len PySem.boot_len (pa_cons (pv 3) pa_nil)) pe_int (nomark _))))) pa_nil)))))))
      (pss_one (ps_ret pe_bl))
      pss_nil)
    (pss_cons (ps_for PassesOwn.never rfl (pi_list (pv 2)) (pg_name (i := 3) scIsSteps.nd rfl (.inl rfl))
      (pss_one (ps_if (PW.pt (pw_or (pt_not (pt_val (pe_callB call_isi (by rfl) B.isinstance (by decide +kernel) (pa_cons (pe_ix ix_tup (pv 3) pe_int (fun _ _ => rfl)) (pa_cons (pe_bltn (v := .ty "str") (by rfl) B.str (by decide +kernel) rfl) pa_nil))))) (pw_or (pt_not (pt_val (pe_callB call_isi (by rfl) B.isinstance (by decide +kernel) (pa_cons (pe_ix ix_tup (pv 3) pe_int (fun _ _ => rfl)) (pa_cons (pe_bltn (v := .ty "str") (by rfl) B.str (by decide +kernel) rfl) pa_nil))))) (pw_or1 (pt_cmpR op_notIn_seq (pe_ix ix_tup (pv 3) pe_int (fun _ _ => rfl)) (pv 1) (by rfl))))))
          (pss_one (ps_ret pe_bl))
          pss_nil)))
    (pss_one (ps_ret (pe_cmpR op_eq (pe_lenStrsD rfl (by rfl) B.len (by rfl) B.set (pe_lc (own := [("_law_step", 3)]) (g := gName 3) (tt := tYes) (te := tOp (rIxT K) (tVar 3) (tC (.int 0))) rfl scIsSteps.nd (pi_list (pv 2)) (blkOk_by (N := nIsSteps) (sc := defScope sIsSteps) (by decide +kernel)) (fun _ _ _ _ _ => pg_name (i := 3) scIsSteps.nd rfl (Or.inl rfl)) (fun _ _ _ _ _ => pts_nil) (fun _ _ _ _ _ => pe_ix ix_tup (pv 3) pe_int (fun _ _ => rfl)))) (pe_callB call_len_seq (by rfl) B.len PySem.boot_len (pa_cons (pv 2) pa_nil)) (nomark _))))), ?_⟩
  obtain ⟨a, t, v, bad, stand, d, rfl, ht, tr, hn, q⟩ := h
  refine ⟨_, rfl, _, _, _, _, _, rfl, .ty _, tr.ty, isi_L d, _, rfl, ?_⟩
  cases d with
  | none => exact q _ (Same.refl _)
  | bool _ => exact q _ (Same.refl _)
  | int _ => exact q _ (Same.refl _)
  | str _ => exact q _ (Same.refl _)
  | tuple _ => exact q _ (Same.refl _)
  | dict _ => simp only [Tr] at tr
  | list ds =>
  have hn : ds.length ≤ 90 := hn
  simp only [Tr] at tr
  obtain ⟨p, xs, rfl, np, hp, tx⟩ := tr
  have lx := tx.len
  refine ⟨_, rfl, p, rfl, ⟨_, .inl (.inl hp)⟩, fun D hD => ?_⟩
  refine lc_list (walk_list (xs := xs)) ds (fun d => .bl (pairB d)) (by omega) (by omega) hD (fun H' s => .inl (.inl (s _ _ hp))) ?_ ?_
  · rintro i d v H1 H1' k hd s1 ⟨rfl, ex⟩ hk
    have td := (tx.at hd ex).same s1
    refine ⟨rfl, _, rfl, _, _, _, _, _, rfl, .ty _, td.ty, isi_T d, _, rfl, ?_⟩
    cases d with
    | none => exact hk _ (Same.refl _)
    | bool _ => exact hk _ (Same.refl _)
    | int _ => exact hk _ (Same.refl _)
    | str _ => exact hk _ (Same.refl _)
    | list _ => exact hk _ (Same.refl _)
    | dict _ => simp only [Tr] at td
    | tuple es =>
      simp only [Tr] at td
      obtain ⟨T, ys, rfl, nT, hT, ty⟩ := td
      have ly := ty.len
      refine ⟨_, rfl, T, _, rfl, .inr hT.sq, rfl, ?_⟩
      have e1 : decide (V.int ((ys.length : Nat) : Int) = V.int 2) = pairB (.tuple es) := by
        show _ = decide (es.length = 2)
        rw [Bool.eq_iff_iff, decide_eq_true_iff, decide_eq_true_iff]
        constructor
        · intro e
          have := V.int.inj e
          omega
        · intro e
          rw [ly, e]
          rfl
      rw [e1]
      exact hk _ (Same.refl _)
  intro H2 s2 e2
  rw [bools_map pairB] at e2
  refine ⟨D, _, rfl, .inl (.inl e2), _, rfl, ?_⟩
  rw [show (ds.map pairB).all id = ds.all pairB by rw [List.all_map]; rfl]
  cases ep : ds.all pairB with
  | false =>
    have fin := q H2 s2
    rw [stepsL_false ep] at fin
    exact fin
  | true =>
  have two := List.all_eq_true.mp ep
  have p2 := s2 _ _ hp
  have tx2 := tx.same s2
  have ht2 := ht.same s2
  refine ⟨_, rfl, p, rfl, ⟨_, .inl (.inl p2)⟩, ?_⟩
  refine for_it (walk_list (xs := xs)) (fun i σ H' => ∃ (y3 : Option V), σ = [some (.ref a), some (.ref t), some (.ref p), y3] ∧ Same H2 H' ∧ (ds.take i).all (stepB stand) = true) ?_ (fun i σ H' _ h => by obtain ⟨_, _, s, _⟩ := h; exact .inl (.inl (s _ _ p2))) ?_ ?_
  · exact ⟨_, rfl, Same.refl _, rfl⟩
  · rintro i v σ H3' H3 hi ⟨y3, rfl, s3, al⟩ ⟨rfl, ex⟩
    have hi' : i < ds.length := by omega
    have ed := List.getElem?_eq_getElem hi'
    have md := List.mem_of_getElem? ed
    obtain ⟨x, y, e0⟩ := pairB_two (two _ md)
    have td := (tx2.at ed ex).same s3
    have nx : stepB stand ds[i] = true → (ds.take (i + 1)).all (stepB stand) = true := fun e => by
      rw [List.take_add_one, ed, List.all_append, al, Option.toList_some, List.all_cons, e]
      rfl
    have bx : stepB stand ds[i] = false → stepsL stand (.list ds) = false := fun e => by
      show (ds.all (stepB stand) && _) = false
      rw [all_notF md e, Bool.false_and]
    rw [e0, stepB_two] at nx bx
    rw [e0] at td
    simp only [Tr] at td
    obtain ⟨T, ys, rfl, nT, hT, ty⟩ := td
    simp only [TrAll] at ty
    obtain ⟨u0, r0, rfl, t0, u1, r1, rfl, t1, er⟩ := ty
    subst er
    refine ⟨_, rfl, T, _, 0, _, rfl, rfl, hT.sq, atI_nat (j := 0) rfl, _, _, _, _, _, rfl, .ty _, t0.ty, isi_S x, _, rfl, ?_⟩
    cases x with
    | none => have fin := q H3 (s2.trans s3); rw [bx rfl] at fin; exact fin
    | bool _ => have fin := q H3 (s2.trans s3); rw [bx rfl] at fin; exact fin
    | int _ => have fin := q H3 (s2.trans s3); rw [bx rfl] at fin; exact fin
    | list _ => have fin := q H3 (s2.trans s3); rw [bx rfl] at fin; exact fin
    | tuple _ => have fin := q H3 (s2.trans s3); rw [bx rfl] at fin; exact fin
    | dict _ => simp only [Tr] at t0
    | str x =>
    refine ⟨_, rfl, T, _, 1, _, rfl, rfl, hT.sq, atI_nat (j := 1) rfl, _, _, _, _, _, rfl, .ty _, t1.ty, isi_S y, _, rfl, ?_⟩
    cases y with
    | none => have fin := q H3 (s2.trans s3); rw [bx rfl] at fin; exact fin
    | bool _ => have fin := q H3 (s2.trans s3); rw [bx rfl] at fin; exact fin
    | int _ => have fin := q H3 (s2.trans s3); rw [bx rfl] at fin; exact fin
    | list _ => have fin := q H3 (s2.trans s3); rw [bx rfl] at fin; exact fin
    | tuple _ => have fin := q H3 (s2.trans s3); rw [bx rfl] at fin; exact fin
    | dict _ => simp only [Tr] at t1
    | str y =>
    simp only [Tr] at t0
    subst t0
    refine ⟨_, rfl, T, _, 0, _, rfl, rfl, hT.sq, atI_nat (j := 0) rfl, _, rfl, t, _, rfl, .inr (ht2.same s3).sq, rfl, flat_strs _, ?_⟩
    rw [inV_strs]
    refine ⟨_, rfl, ?_⟩
    cases b : decide (x ∈ stand) with
    | false =>
      have fin := q H3 (s2.trans s3)
      rw [bx b] at fin
      exact fin
    | true => exact ⟨_, rfl, s3, nx b⟩
  · rintro σ H4 ⟨y3, rfl, s4, al⟩
    rw [lx, List.take_of_length_le (Nat.le_refl _)] at al
    have p4 := s4 _ _ p2
    have tx4 := tx2.same s4
    have st := List.all_eq_true.mp al
    have s04 := s2.trans s4
    refine ⟨_, rfl, p, rfl, ⟨_, .inl (.inl p4)⟩, fun L hL => ?_⟩
    refine lc_strs (walk_list (xs := xs)) (ds.map lkN) (by rw [List.length_map]; omega) (by omega) hL (fun H' s => .inl (.inl (s _ _ p4))) ?_ ?_
    · rintro i x v H3 H3' k hx s3 ⟨rfl, ex⟩ hk
      obtain ⟨d1, hd1, rfl⟩ := at_map2 hx
      obtain ⟨T, x1, rfl, hT, _⟩ := pair_at (step_pair (st d1 (List.mem_of_getElem? hd1))) ((tx4.at hd1 ex).same s3)
      exact ⟨rfl, _, rfl, T, _, 0, _, rfl, rfl, hT.sq, atI_nat (j := 0) rfl, hk _ (Same.refl _)⟩
    · intro H3 s3 d3
      refine ⟨L, _, rfl, d3, by rw [List.length_map]; omega, fun us nu mu => ⟨_, rfl, p, _, rfl, .inl (.inl (.inl (s3 _ _ p4))), rfl, ?_⟩⟩
      have fin := q H3 (s04.trans s3)
      rw [show stepsL stand (.list ds) = (ds.all (stepB stand) && decide (ds.map lkN).Nodup) from rfl, al, Bool.true_and, ← set_len nu mu, List.length_map, ← lx] at fin
      exact fin
/-! ### _law_is_order -/
abbrev sIsOrd : Stmt := topS 50
abbrev nIsOrd : List Str := ["_law_pals_here", "_law_stand", "_law_matter", "_law_name"]
abbrev pIsOrd : List Str := ["_law_pals_here", "_law_stand", "_law_matter"]
theorem scIsOrd : FnScope nIsOrd pIsOrd (defScope sIsOrd) := ⟨rfl, rfl, rfl, by decide +kernel, rfl, by decide +kernel, by decide +kernel⟩
theorem ok_isOrd {f : Addr} {fd : FuncData} (B : Blt mg) (CS : Cal P w K mg base 3 "_law_stand_of" ["_law_pals_here", "_law_some"] spStandOf) (F : Fun K "_law_is_order" "_law_is_order" sIsOrd f fd) : FnOk P w K mg base CX0 4 f fd pIsOrd spOrdX := by
  refine fok F scIsOrd (fun vs H Q E h => ?_) (fun cdv A outer s H vs Q E hr h => ?_)
  · obtain ⟨a, t, v, bad, ps, stand, d, n, rfl, _⟩ := h
    rfl
  have hu := hu_of hr
  refine ⟨_, pss_cons (ps_if (PW.pt (pw_or (pt_not (pt_val (pe_callB call_isi (by rfl) B.isinstance (by decide +kernel) (pa_cons (pv 2) (pa_cons (pe_bltn (v := .ty "list") (by rfl) B.list (by decide +kernel) rfl) pa_nil))))) (pw_or1 (pt_not (pt_val (pe_callB (cr_all rfl) (by rfl) B.all (by decide +kernel) (pa_cons (pe_lc (own := [("_law_name", 3)]) (g := gName 3) (tt := tYes) (te := tCB (rIsi K) (tCons (tVar 3) (tCons (tC (.ty "str")) tNil))) rfl scIsOrd.nd (pi_list (pv 2)) (blkOk_by (N := nIsOrd) (sc := defScope sIsOrd) (by decide +kernel)) (fun _ _ _ _ _ => pg_name (i := 3) scIsOrd.nd rfl (Or.inl rfl)) (fun _ _ _ _ _ => pts_nil) (fun _ _ _ _ _ => pe_callB call_isi (by rfl) B.isinstance (by decide +kernel) (pa_cons (pv 3) (pa_cons (pe_bltn (v := .ty "str") (by rfl) B.str (by decide +kernel) rfl) pa_nil)))) pa_nil)))))))
      (pss_one (ps_ret pe_bl))
      pss_nil)
    (pss_cons (ps_if (pt_cmpR (op_neL hr.units) (pe_callB cr_sortedR (by rfl) B.sorted (by decide +kernel) (pa_cons (pv 2) pa_nil)) (pe_callB cr_sortedR (by rfl) B.sorted (by decide +kernel) (pa_cons (pv 1) pa_nil)) (nomark _))
      (pss_one (ps_ret pe_bl))
      pss_nil)
    (pss_one (ps_ret (pe_cmpR (op_eqT hr.units) (pe_cal CS hr (pa_cons (pv 0) (pa_cons (pv 2) pa_nil))) (pv 1) (nomark _))))), ?_⟩
  obtain ⟨a, t, v, bad, ps, stand, d, n, rfl, ha, hpo, ht, gs, l64, tr, ok, hn, q⟩ := h
  refine ⟨_, rfl, _, _, _, _, _, rfl, .ty _, tr.ty, isi_L d, _, rfl, ?_⟩
  cases d with
  | none => exact q _ (Same.refl _)
  | bool _ => exact q _ (Same.refl _)
  | int _ => exact q _ (Same.refl _)
  | str _ => exact q _ (Same.refl _)
  | tuple _ => exact q _ (Same.refl _)
  | dict _ => simp only [Tr] at tr
  | list ds =>
  have hn : ds.length < 64 := hn
  obtain ⟨m, rfl⟩ := okd_deep (.inl ok)
  have okl := okd_items (.inl ok)
  simp only [Tr] at tr
  obtain ⟨p, xs, rfl, np, hp, tx⟩ := tr
  have lx := tx.len
  refine ⟨_, rfl, p, rfl, ⟨_, .inl (.inl hp)⟩, fun D hD => ?_⟩
  refine lc_list (walk_list (xs := xs)) ds (fun d => .bl (isS d)) (by omega) (by omega) hD (fun H' s => .inl (.inl (s _ _ hp))) ?_ ?_
  · rintro i d v H1 H1' k hd s1 ⟨rfl, ex⟩ hk
    have td := (tx.at hd ex).same s1
    refine ⟨rfl, _, rfl, _, _, _, _, _, rfl, .ty _, td.ty, isi_S d, hk _ (Same.refl _)⟩
  intro H2 s2 e2
  rw [bools_map isS] at e2
  refine ⟨D, _, rfl, .inl (.inl e2), _, rfl, ?_⟩
  rw [show (ds.map isS).all id = ds.all isS by rw [List.all_map]; rfl]
  replace q : ∀ H', Same H H' → Q (.bl (ds.all isS && (decide ((ds.map strPD).Perm stand) && decide (standOf ps (ds.map strPD) = stand)))) H' := q
  cases ep : ds.all isS with
  | false =>
    have fin := q H2 s2
    rw [ep, Bool.false_and] at fin
    exact fin
  | true =>
  rw [ep, Bool.true_and] at q
  have all := List.all_eq_true.mp ep
  have form : ds = (ds.map strPD).map .str := by
    rw [List.map_map]
    refine (List.map_id ds).symm.trans (List.map_congr_left fun d hd => ?_)
    have := all d hd
    cases d with
    | str x => rfl
    | _ => cases this
  have gm : Goods (ds.map strPD) := fun x hx => by
    have : PyData.str x ∈ ds := by
      rw [form]
      exact List.mem_map_of_mem hx
    exact okd_good (okl.1 _ this)
  have lm : (ds.map strPD).length = ds.length := List.length_map _
  generalize ds.map strPD = ms at *
  subst form
  have exs := tx.strs_eq
  subst exs
  have p2 := s2 _ _ hp
  refine ⟨_, rfl, p, ms, rfl, .inr p2, by omega, fun ys u1 H3 s3 n3 pm3 so3 e3 => ?_⟩
  refine ⟨_, rfl, t, stand, rfl, .inl (ht.same (s2.trans s3)), by omega, fun zs u2 H4 s4 n4 pm4 so4 e4 => ?_⟩
  refine ⟨u1, u2, ys, zs, rfl, rfl, s4 _ _ e3, e4, (fun x hx => gm x (pm3.subset hx)), (fun x hx => gs x (pm4.subset hx)), ?_⟩
  have s04 := (s2.trans s3).trans s4
  have eqp : decide (ms.Perm stand) = decide (ys = zs) := by
    rw [Bool.eq_iff_iff, decide_eq_true_iff, decide_eq_true_iff]
    constructor
    · exact fun h => sortedS_uniq (pm3.trans (h.trans pm4.symm)) so3 so4
    · intro h
      subst h
      exact pm3.symm.trans pm4
  rw [eqp] at q
  refine ⟨_, rfl, ?_⟩
  cases b : decide (ys = zs) with
  | false =>
    have fin := q H4 s04
    rw [b, Bool.false_and] at fin
    exact fin
  | true =>
    rw [b, Bool.true_and] at q
    refine ⟨_, rfl, _, rfl, a, p, ps, ms, rfl, ha.same s04, hpo, s04 _ _ hp, gm, by omega, fun t5 H5 s5 e5 => ?_⟩
    exact ⟨_, rfl, t5, t, _, _, rfl, rfl, e5, ht.same (s04.trans s5), gm.perm (stand_perm ps _), gs, q H5 (s04.trans s5)⟩
/-! ### _law_steps_on -/
abbrev sStOn : Stmt := topS 51
abbrev nStOn : List Str := ["_law_pals_here", "_law_stand", "_law_matter", "_law_last", "_law_later", "_law_step", "_law_its"]
abbrev pStOn : List Str := ["_law_pals_here", "_law_stand", "_law_matter", "_law_last"]
theorem scStOn : FnScope nStOn pStOn (defScope sStOn) := ⟨rfl, rfl, rfl, by decide +kernel, rfl, by decide +kernel, by decide +kernel⟩
theorem ok_stOn {f : Addr} {fd : FuncData} (B : Blt mg) (CWo : Cal P w K mg base 3 "_law_words" ["_law_pals_here", "_law_stand", "_law_mine", "_law_its"] spWords) (F : Fun K "_law_steps_on" "_law_steps_on" sStOn f fd) : FnOk P w K mg base CX0 4 f fd pStOn spStOnX := by
  refine fok F scStOn (fun vs H Q E h => ?_) (fun cdv A outer s H vs Q E hr h => ?_)
  · obtain ⟨a, t, p, last, bad, ps, stand, ds, xs, rfl, _⟩ := h
    rfl
  have hu := hu_of hr
  refine ⟨_, pss_cons (ps_set (i := 4) scStOn.nd rfl (.inl rfl) (pe_op op_cat (pe_lc (own := [("_law_step", 5)]) (g := gName 5) (tt := tYes) (te := tOp (rIxT K) (tVar 5) (tC (.int 0))) rfl scStOn.nd (pi_list (pe_slice sl_list (pv 2) (po_some pe_int) po_none)) (blkOk_by (N := nStOn) (sc := defScope sStOn) (by decide +kernel)) (fun _ _ _ _ _ => pg_name (i := 5) scStOn.nd rfl (Or.inl rfl)) (fun _ _ _ _ _ => pts_nil) (fun _ _ _ _ _ => pe_ix ix_tup (pv 5) pe_int (fun _ _ => rfl))) (pe_lst (pa_cons (pv 3) pa_nil))))
    (pss_one (ps_ret (pe_callB (cr_all rfl) (by rfl) B.all (by decide +kernel) (pa_cons (pe_lc (own := [("_law_step", 5), ("_law_its", 6)]) (g := gTup K 2 (gCons (gName 5) (gCons (gName 6) gNil))) (tt := tYes) (te := tOp (rIn K false) (tOp (rIxT K) (tVar 5) (tC (.int 1))) (tCall spWords [] E0 (tCons (tVar 0) (tCons (tVar 1) (tCons (tOp (rIxT K) (tVar 5) (tC (.int 0))) (tCons (tVar 6) tNil)))))) rfl scStOn.nd (pi_zip (by rfl) B.zip (pa_cons (pv 2) (pa_cons (pv 4) pa_nil))) (blkOk_by (N := nStOn) (sc := defScope sStOn) (by decide +kernel)) (fun _ _ _ _ _ => pg_tup rfl (pgs_cons (pg_name (i := 5) scStOn.nd rfl (Or.inl rfl)) (pgs_cons (pg_name (i := 6) scStOn.nd rfl (Or.inl rfl)) pgs_nil))) (fun _ _ _ _ _ => pts_nil) (fun _ _ _ _ _ => pe_cmpR op_in_seq (pe_ix ix_tup (pv 5) pe_int (fun _ _ => rfl)) (pe_cal CWo hr (pa_cons (pv 0) (pa_cons (pv 1) (pa_cons (pe_ix ix_tup (pv 5) pe_int (fun _ _ => rfl)) (pa_cons (pv 6) pa_nil))))) (by rfl))) pa_nil)))), ?_⟩
  obtain ⟨a, t, p, last, bad, ps, stand, ds, xs, rfl, ha, hpo, ht, gs, nds, ln, hp, tx, st, ml, ne, hn, q⟩ := h
  have lx := tx.len
  refine ⟨_, rfl, _, rfl, p, _, rfl, .inl (.inl hp), fun l hl => ?_⟩
  have c1 : cutV xs (some 1) none = xs.drop 1 := cutL_from xs 1
  rw [c1]
  have s2 := same_upd (o := .lst (xs.drop 1)) hl
  have e2 : upd H l (.lst (xs.drop 1)) l = some (.lst (xs.drop 1)) := upd_same
  have tx2 := (tx.drop 1).same s2
  generalize upd H l (.lst (xs.drop 1)) = H2 at s2 e2 tx2 ⊢
  refine ⟨l, rfl, ⟨_, .inl (.inl e2)⟩, fun D hD => ?_⟩
  have ld : (xs.drop 1).length = ds.length - 1 := by rw [List.length_drop, lx]
  refine lc_strs (walk_list (xs := xs.drop 1)) ((ds.drop 1).map lkN) (by rw [List.length_map, List.length_drop]; omega) (by omega) hD (fun H' s => .inl (.inl (s _ _ e2))) ?_ ?_
  · rintro i x v H3 H3' k' hx s3 ⟨rfl, ex⟩ hk'
    obtain ⟨d1, hd1, rfl⟩ := at_map2 hx
    obtain ⟨T, x1, rfl, hT, _⟩ := pair_at (step_pair (st d1 (List.mem_of_mem_drop (List.mem_of_getElem? hd1)))) ((tx2.at hd1 ex).same s3)
    exact ⟨rfl, _, rfl, T, _, 0, _, rfl, rfl, hT.sq, atI_nat (j := 0) rfl, hk' _ (Same.refl _)⟩
  intro H3 s3 e3
  refine ⟨_, rfl, (by show 1 ≤ sizeLine; decide), fun l1 hl1 => ?_⟩
  have s4 := same_upd (o := .lst [.str last]) hl1
  have e4 : upd H3 l1 (.lst [.str last]) l1 = some (.lst [.str last]) := upd_same
  generalize upd H3 l1 (.lst [.str last]) = H4 at s4 e4 ⊢
  refine ⟨D, l1, _, _, rfl, rfl, s4 _ _ e3, e4, small_le (by rw [List.length_map, List.length_map, List.length_drop]; show _ + 1 ≤ _; omega), fun m hm => ?_⟩
  have s5 := same_upd (o := .lst (((ds.drop 1).map lkN).map V.str ++ [.str last])) hm
  have e5 : upd H4 m (.lst (((ds.drop 1).map lkN).map V.str ++ [.str last])) m = some (.lst ((nextsX ds last).map V.str)) := by
    rw [upd_same]
    unfold nextsX
    rw [List.map_append]
    rfl
  generalize upd H4 m (.lst (((ds.drop 1).map lkN).map V.str ++ [.str last])) = H5 at s5 e5 ⊢
  have s15 := ((s2.trans s3).trans s4).trans s5
  have p5 := s15 _ _ hp
  have tx5 := tx.same s15
  have nl := nexts_len ds last ne
  have mn : ∀ y ∈ nextsX ds last, y ∈ stand := fun y hy => by
    unfold nextsX at hy
    rcases List.mem_append.mp hy with h | h
    · obtain ⟨d, hd, rfl⟩ := List.mem_map.mp h
      obtain ⟨x, z, rfl, hx⟩ := step_form (st d (List.mem_of_mem_drop hd))
      exact hx
    · rw [List.mem_singleton.mp h]
      exact ml
  refine ⟨_, rfl, _, rfl, p, m, _, _, rfl, .inl (.inl p5), .inl (.inl e5), fun L hL => ?_⟩
  refine lc_list (walk_zip (xs := xs) (ys := (nextsX ds last).map V.str) (n := xs.length) (by rw [List.length_map]; omega)) (ds.zip (nextsX ds last)) (fun z => .bl (onB ps stand (lkN z.1) (lkW z.1) z.2)) (by rw [List.length_zip]; omega) (by omega) hL (fun H' s => ⟨.inl (.inl (s _ _ p5)), .inl (.inl (s _ _ e5))⟩) ?_ ?_
  · rintro i z v H6 H6' kk hz s6 ⟨T, u1, u2, rfl, nT, rfl, f1, f2⟩ hkk
    obtain ⟨z1, z2⟩ := List.getElem?_zip_eq_some.mp hz
    have md := List.mem_of_getElem? z1
    obtain ⟨y, hy, rfl⟩ := at_map f2
    obtain rfl : y = z.2 := Option.some.inj (hy.symm.trans z2)
    have sT := same_upd (o := .tup [u1, .str z.2]) nT
    have s57 := s6.trans sT
    obtain ⟨T1, x1, rfl, hT, tw⟩ := pair_at (step_pair (st _ md)) ((tx5.at z1 f1).same s57)
    refine ⟨T, _, rfl, .inl (.inl upd_same), rfl, _, _, rfl, _, _, rfl, rfl, rfl, ?_⟩
    have s17 := s15.trans s57
    obtain ⟨x, wd, ef, mx⟩ := step_form (st _ md)
    have my := mn z.2 (List.mem_of_getElem? z2)
    rw [ef] at tw hkk hT
    simp only [lkW, Tr] at tw
    subst tw
    obtain ⟨i1, hi1⟩ := List.mem_iff_getElem?.mp mx
    obtain ⟨j1, hj1⟩ := List.mem_iff_getElem?.mp my
    refine ⟨_, rfl, T1, _, 1, _, rfl, rfl, hT.sq, atI_nat (j := 1) rfl, _, rfl, _, rfl, _, rfl, T1, _, 0, _, rfl, rfl, hT.sq, atI_nat (j := 0) rfl, _, rfl, a, t, ps, stand, x, z.2, i1, j1, rfl, ha.same s17, hpo, ht.same s17, gs, nds, ln, hi1, hj1, fun p8 H8 s8 np e8 => ?_⟩
    refine ⟨p8, _, rfl, .inl (.inl (.inl e8)), rfl, flat_strs _, ?_⟩
    rw [inV_strs]
    have e9 : decide (wd ∈ wordsOf ps stand x z.2 i1 j1) = onB ps stand x (.str wd) z.2 := by
      show _ = decide (wd ∈ wordsX ps stand x z.2)
      rw [wordsX_eq mx my, idx_at nds hi1, idx_at nds hj1]
    rw [e9]
    exact hkk _ (sT.trans s8)
  intro H6 s6 e6
  rw [bools_map (fun z : PyData × Str => onB ps stand (lkN z.1) (lkW z.1) z.2)] at e6
  refine ⟨L, _, rfl, .inl (.inl e6), ?_⟩
  have fin := q H6 (s15.trans s6)
  rw [List.all_map]
  exact fin
/-! ### _law_is_ring -/
abbrev sIsRing : Stmt := topS 52
abbrev nIsRgX : List Str := ["_law_pals_here", "_law_stand", "_law_matter"]
abbrev pIsRgX : List Str := ["_law_pals_here", "_law_stand", "_law_matter"]
theorem scIsRgX : FnScope nIsRgX pIsRgX (defScope sIsRing) := ⟨rfl, rfl, rfl, by decide +kernel, rfl, by decide +kernel, by decide +kernel⟩
theorem ok_isRgX {f : Addr} {fd : FuncData} (B : Blt mg) (CIs : Cal P w K mg base 1 "_law_is_steps" ["_law_pals_here", "_law_stand", "_law_matter"] spStepsX) (COn : Cal P w K mg base 4 "_law_steps_on" ["_law_pals_here", "_law_stand", "_law_matter", "_law_last"] spStOnX) (F : Fun K "_law_is_ring" "_law_is_ring" sIsRing f fd) : FnOk P w K mg base CX0 5 f fd pIsRgX spRgX := by
  refine fok F scIsRgX (fun vs H Q E h => ?_) (fun cdv A outer s H vs Q E hr h => ?_)
  · obtain ⟨a, t, v, bad, ps, stand, d, rfl, _⟩ := h
    rfl
  have hu := hu_of hr
  refine ⟨_, pss_cons (ps_if (PW.pt (pw_or (pt_not (pt_val (pe_cal CIs hr (pa_cons (pv 0) (pa_cons (pv 1) (pa_cons (pv 2) pa_nil)))))) (pw_or1 (pt_cmpR op_lt (pe_callB call_len_seq (by rfl) B.len PySem.boot_len (pa_cons (pv 2) pa_nil)) pe_int (nomark _)))))
      (pss_one (ps_ret pe_bl))
      pss_nil)
    (pss_one (ps_ret (pe_cal COn hr (pa_cons (pv 0) (pa_cons (pv 1) (pa_cons (pv 2) (pa_cons (pe_ix ix_tup (pe_ix ix_list (pv 2) pe_int (fun _ _ => rfl)) pe_int (fun _ _ => rfl)) pa_nil))))))), ?_⟩
  obtain ⟨a, t, v, bad, ps, stand, d, rfl, ha, hpo, ht, gs, nds, ln, tr, hn, q⟩ := h
  refine ⟨_, rfl, _, rfl, _, rfl, a, t, v, bad, stand, d, rfl, ht, tr, hn, fun H1 s1 => ⟨_, rfl, ?_⟩⟩
  cases e : stepsL stand d with
  | false =>
    have e0 : ringL ps stand d = false := by
      cases d with
      | list ds =>
        show (stepsL stand (.list ds) && _) = false
        rw [e, Bool.false_and]
      | _ => rfl
    have fin := q H1 s1
    rw [e0] at fin
    exact fin
  | true =>
  match d, e, tr, hn, q with
  | .list ds, e, tr, hn, q =>
  have hn : ds.length ≤ 90 := hn
  have q : ∀ H', Same H H' → Q (.bl (decide (2 ≤ ds.length) && onsB ps stand ds (lkN (ds.getD 0 .none)))) H' := fun H' s => by
    have := q H' s
    have e1 : ringL ps stand (.list ds) = (stepsL stand (.list ds) && (decide (2 ≤ ds.length) && onsB ps stand ds (lkN (ds.getD 0 .none)))) := rfl
    rw [e1, e, Bool.true_and] at this
    exact this
  have st := steps_all e
  simp only [Tr] at tr
  obtain ⟨p, xs, rfl, np, hp, tx⟩ := tr
  have lx := tx.len
  have p1 := s1 _ _ hp
  refine ⟨_, rfl, p, _, rfl, .inl (.inl (.inl p1)), _, _, rfl, rfl, _, rfl, ?_⟩
  rw [lx]
  refine ite2 (fun c => ?_) (fun c => ?_)
  · have c := of_decide_eq_true c
    have fin := q H1 s1
    rw [decide_eq_false (show ¬ 2 ≤ ds.length by omega), Bool.false_and] at fin
    exact fin
  have c : 2 ≤ ds.length := by
    have := of_decide_eq_false (Bool.eq_false_iff.mpr c)
    omega
  have i0 : 0 < ds.length := by omega
  have ed := List.getElem?_eq_getElem i0
  have ex := List.getElem?_eq_getElem (l := xs) (i := 0) (by omega)
  have g0 : ds.getD 0 .none = ds[0] := by rw [List.getD_eq_getElem?_getD, ed]; rfl
  have md := List.mem_of_getElem? ed
  have tx1 := tx.same s1
  obtain ⟨T, x1, hv, hT, _⟩ := pair_at (step_pair (st _ md)) (tx1.at ed ex)
  rw [hv] at ex
  have ml : lkN ds[0] ∈ stand := by
    obtain ⟨x, z, e9, mx⟩ := step_form (st _ md)
    rw [e9]
    exact mx
  refine ⟨_, rfl, _, rfl, _, rfl, _, rfl, p, _, 0, _, rfl, rfl, .inl (.inl p1), atI_nat (j := 0) ex, T, _, 0, _, rfl, rfl, hT.sq, atI_nat (j := 0) rfl, ?_⟩
  refine ⟨a, t, p, _, bad, ps, stand, ds, xs, rfl, ha.same s1, hpo, ht.same s1, gs, nds, ln, p1, tx1, st, ml, List.length_pos_iff.mp i0, hn, fun H2 s2 => ?_⟩
  have fin := q H2 (s1.trans s2)
  rw [decide_eq_true c, Bool.true_and, g0] at fin
  exact fin
/-! ### _law_is_chain -/
abbrev sIsCh : Stmt := topS 53
abbrev nIsChX : List Str := ["_law_pals_here", "_law_stand", "_law_mine", "_law_its", "_law_matter", "_law_step"]
abbrev pIsChX : List Str := ["_law_pals_here", "_law_stand", "_law_mine", "_law_its", "_law_matter"]
theorem scIsChX : FnScope nIsChX pIsChX (defScope sIsCh) := ⟨rfl, rfl, rfl, by decide +kernel, rfl, by decide +kernel, by decide +kernel⟩
theorem ok_isChX {f : Addr} {fd : FuncData} (B : Blt mg) (CIs : Cal P w K mg base 1 "_law_is_steps" ["_law_pals_here", "_law_stand", "_law_matter"] spStepsX) (COn : Cal P w K mg base 4 "_law_steps_on" ["_law_pals_here", "_law_stand", "_law_matter", "_law_last"] spStOnX) (F : Fun K "_law_is_chain" "_law_is_chain" sIsCh f fd) : FnOk P w K mg base CX0 5 f fd pIsChX spChX := by
  refine fok F scIsChX (fun vs H Q E h => ?_) (fun cdv A outer s H vs Q E hr h => ?_)
  · obtain ⟨a, t, one, other, v, bad, ps, stand, d, rfl, _⟩ := h
    rfl
  have hu := hu_of hr
  refine ⟨_, pss_cons (ps_if (PW.pt (pw_or (pt_not (pt_val (pe_cal CIs hr (pa_cons (pv 0) (pa_cons (pv 1) (pa_cons (pv 4) pa_nil)))))) (pw_or (pt_cmpR op_eq (pe_callB call_len_seq (by rfl) B.len PySem.boot_len (pa_cons (pv 4) pa_nil)) pe_int (nomark _)) (pw_or1 (pt_cmpR op_ne (pe_ix ix_tup (pe_ix ix_list (pv 4) pe_int (fun _ _ => rfl)) pe_int (fun _ _ => rfl)) (pv 2) (nomark _))))))
      (pss_one (ps_ret pe_bl))
      pss_nil)
    (pss_one (ps_ret (pe_and (pe_cmpR op_notIn_seq (pv 3) (pe_lc (own := [("_law_step", 5)]) (g := gName 5) (tt := tYes) (te := tOp (rIxT K) (tVar 5) (tC (.int 0))) rfl scIsChX.nd (pi_list (pv 4)) (blkOk_by (N := nIsChX) (sc := defScope sIsCh) (by decide +kernel)) (fun _ _ _ _ _ => pg_name (i := 5) scIsChX.nd rfl (Or.inl rfl)) (fun _ _ _ _ _ => pts_nil) (fun _ _ _ _ _ => pe_ix ix_tup (pv 5) pe_int (fun _ _ => rfl))) (by rfl)) (pe_one (pe_cal COn hr (pa_cons (pv 0) (pa_cons (pv 1) (pa_cons (pv 4) (pa_cons (pv 3) pa_nil))))))))), ?_⟩
  obtain ⟨a, t, one, other, v, bad, ps, stand, d, rfl, ha, hpo, ht, gs, nds, ln, mo, tr, hn, q⟩ := h
  refine ⟨_, rfl, _, rfl, _, rfl, a, t, v, bad, stand, d, rfl, ht, tr, hn, fun H1 s1 => ⟨_, rfl, ?_⟩⟩
  cases e : stepsL stand d with
  | false =>
    have e0 : chainL ps stand one other d = false := by
      cases d with
      | list ds =>
        show ((stepsL stand (.list ds) && _) && _) = false
        rw [e, Bool.false_and, Bool.false_and]
      | _ => rfl
    have fin := q H1 s1
    rw [e0] at fin
    exact fin
  | true =>
  match d, e, tr, hn, q with
  | .list ds, e, tr, hn, q =>
  have hn : ds.length ≤ 90 := hn
  have q : ∀ H', Same H H' → Q (.bl (decide (ds ≠ []) && (decide (lkN (ds.getD 0 .none) = one) && (!decide (other ∈ ds.map lkN) && onsB ps stand ds other)))) H' := fun H' s => by
    have := q H' s
    have e1 : chainL ps stand one other (.list ds) = ((stepsL stand (.list ds) && decide (ds ≠ [])) && (decide (lkN (ds.getD 0 .none) = one) && (!decide (other ∈ ds.map lkN) && onsB ps stand ds other))) := rfl
    rw [e1, e, Bool.true_and] at this
    exact this
  have st := steps_all e
  simp only [Tr] at tr
  obtain ⟨p, xs, rfl, np, hp, tx⟩ := tr
  have lx := tx.len
  have p1 := s1 _ _ hp
  refine ⟨_, rfl, p, _, rfl, .inl (.inl (.inl p1)), rfl, _, rfl, ?_⟩
  by_cases ne : ds = []
  · subst ne
    have : xs = [] := List.length_eq_zero_iff.mp lx
    subst this
    exact iteT (q H1 s1)
  rw [decide_eq_true ne, Bool.true_and] at q
  have i0 : 0 < ds.length := List.length_pos_iff.mpr ne
  rw [decide_eq_false (show ¬ V.int ((xs.length : Nat) : Int) = V.int 0 from fun z => by have := V.int.inj z; omega)]
  refine iteF ?_
  have ed := List.getElem?_eq_getElem i0
  have ex := List.getElem?_eq_getElem (l := xs) (i := 0) (by omega)
  have g0 : ds.getD 0 .none = ds[0] := by rw [List.getD_eq_getElem?_getD, ed]; rfl
  have md := List.mem_of_getElem? ed
  have tx1 := tx.same s1
  obtain ⟨T, x1, hv, hT, _⟩ := pair_at (step_pair (st _ md)) (tx1.at ed ex)
  rw [hv] at ex
  refine ⟨_, rfl, p, _, 0, _, rfl, rfl, .inl (.inl p1), atI_nat (j := 0) ex, T, _, 0, _, rfl, rfl, hT.sq, atI_nat (j := 0) rfl, _, rfl, rfl, _, rfl, ?_⟩
  rw [g0] at q
  have dv : decide (V.str (lkN ds[0]) = V.str one) = decide (lkN ds[0] = one) := by
    rw [Bool.eq_iff_iff, decide_eq_true_iff, decide_eq_true_iff]
    exact ⟨V.str.inj, fun z => z ▸ rfl⟩
  rw [dv]
  refine ite2 (fun c => ?_) (fun c => ?_)
  · have fin := q H1 s1
    have c : decide (lkN ds[0] = one) = false := by
      cases z : decide (lkN ds[0] = one) with
      | false => rfl
      | true => rw [z] at c; cases c
    rw [c, Bool.false_and] at fin
    exact fin
  have c : decide (lkN ds[0] = one) = true := by
    cases z : decide (lkN ds[0] = one) with
    | true => rfl
    | false => rw [z] at c; exact absurd rfl c
  rw [c, Bool.true_and] at q
  refine ⟨_, rfl, _, rfl, p, rfl, ⟨_, .inl (.inl p1)⟩, fun L hL => ?_⟩
  refine lc_strs (walk_list (xs := xs)) (ds.map lkN) (by rw [List.length_map]; omega) (by omega) hL (fun H' s => .inl (.inl (s _ _ p1))) ?_ ?_
  · rintro i x v H3 H3' k hx s3 ⟨rfl, ex⟩ hk
    obtain ⟨d1, hd1, rfl⟩ := at_map2 hx
    obtain ⟨T, x1, rfl, hT, _⟩ := pair_at (step_pair (st d1 (List.mem_of_getElem? hd1))) ((tx1.at hd1 ex).same s3)
    exact ⟨rfl, _, rfl, T, _, 0, _, rfl, rfl, hT.sq, atI_nat (j := 0) rfl, hk _ (Same.refl _)⟩
  intro H3 s3 e3'
  have s13 := s1.trans s3
  refine ⟨L, _, rfl, .inl (.inl (.inl e3')), rfl, flat_strs _, ?_⟩
  rw [inV_strs]
  refine ⟨_, rfl, ?_⟩
  cases b : decide (other ∈ ds.map lkN) with
  | true =>
    have fin := q H3 s13
    rw [b] at fin
    exact iteF fin
  | false =>
    refine iteT ⟨_, rfl, _, rfl, _, rfl, _, rfl, a, t, p, _, bad, ps, stand, ds, xs, rfl, ha.same s13, hpo, ht.same s13, gs, nds, ln, s13 _ _ hp, tx.same s13, st, mo, ne, hn, fun H4 s4 => ?_⟩
    have fin := q H4 (s13.trans s4)
    rw [b] at fin
    exact fin
/-! ### _law_some_chain -/
abbrev sSomeCh : Stmt := topS 54
abbrev nSomeCh : List Str := ["_law_box_here", "_law_pals_here", "_law_stand", "_law_mine", "_law_found", "_law_turn", "_law_some", "_law_its"]
abbrev pSomeCh : List Str := ["_law_box_here", "_law_pals_here", "_law_stand"]
theorem scSomeCh : FnScope nSomeCh pSomeCh (defScope sSomeCh) := ⟨rfl, rfl, rfl, by decide +kernel, rfl, by decide +kernel, by decide +kernel⟩
-- slots: 0:box_here 1:pals_here* 2:stand* 3:mine* 4:found 5:turn 6:some 7:its
theorem ok_someCh {f : Addr} {fd : FuncData} (B : Blt mg) (CT : Cal P w K mg base 1 "_law_take" ["_law_box_here", "_law_many"] spTake) (CWo : Cal P w K mg base 3 "_law_words" ["_law_pals_here", "_law_stand", "_law_mine", "_law_its"] spWords) (F : Fun K "_law_some_chain" "_law_some_chain" sSomeCh f fd) : FnOk P w K mg base CX0 4 f fd pSomeCh spSomeCh := by
  refine fok F scSomeCh (fun vs H Q E h => ?_) (fun cdv A outer s H vs Q E hr h => ?_)
  · obtain ⟨b, a, t, ps, stand, rfl, _⟩ := h
    rfl
  have hu := hu_of hr
  refine ⟨_, pss_cons (ps_asg (pe_tup (pa_cons (pe_ix ix_tup (pv 2) (pe_cal CT hr (pa_cons (pv 0) (pa_cons (pe_callB call_len_seq (by rfl) B.len PySem.boot_len (pa_cons (pv 2) pa_nil)) pa_nil))) (fun _ _ => rfl)) (pa_cons (pe_lst pa_nil) pa_nil))) (pg_tup rfl (pgs_cons (pg_name (i := 3) scSomeCh.nd rfl (.inr rfl)) (pgs_cons (pg_name (i := 4) scSomeCh.nd rfl (.inl rfl)) pgs_nil))))
    (pss_cons (ps_for PassesOwn.never rfl (pi_range1 (by rfl) B.range (pa_cons (pe_op op_add pe_int (pe_cal CT hr (pa_cons (pv 0) (pa_cons pe_int pa_nil)))) pa_nil)) (pg_name (i := 5) scSomeCh.nd rfl (.inl rfl))
      (pss_cons (ps_setLc (i := 6) (own := [("_law_its", 7)]) (g := gName 7) (tt := tTest (tOp rNeNil (tCall spWords [] E0 (tCons (tVar 1) (tCons (tVar 2) (tCons (tVar 3) (tCons (tVar 7) tNil))))) (tLst tNil))) (te := tVar 7) rfl scSomeCh.nd rfl rfl (sw_true rfl rfl rfl (by decide +kernel)) (pi_tup (pv 2)) (blkOk_by (N := nSomeCh) (sc := defScope sSomeCh) (by decide +kernel)) (fun _ _ _ _ _ => pg_name (i := 7) scSomeCh.nd rfl (Or.inl rfl)) (fun _ _ _ _ _ => pts_one (pt_cmpR (op_neNil hr.units) (pe_cal CWo hr (pa_cons (pv 1) (pa_cons (pv 2) (pa_cons (pv 3) (pa_cons (pv 7) pa_nil))))) (pe_lst pa_nil) (nomark _))) (fun _ _ _ _ _ => pv 7))
        (pss_one (ps_if (pt_cmpR (op_neNil hr.units) (pv 6) (pe_lst pa_nil) (nomark _))
          (pss_cons (ps_set (i := 7) scSomeCh.nd rfl (.inl rfl) (pe_ix ix_list (pv 6) (pe_cal CT hr (pa_cons (pv 0) (pa_cons (pe_callB call_len_seq (by rfl) B.len PySem.boot_len (pa_cons (pv 6) pa_nil)) pa_nil))) (fun _ _ => rfl)))
            (pss_cons (ps_expr (pe_bm PySem.F.plainAttrs_list PySem.F.slot_list_append PySem.F.type_list_append mt_append (pv 4) (pa_cons (pe_tup (pa_cons (pv 3) (pa_cons (pe_ix ix_list (pe_cal CWo hr (pa_cons (pv 1) (pa_cons (pv 2) (pa_cons (pv 3) (pa_cons (pv 7) pa_nil))))) (pe_un un_neg pe_int) (fun _ _ => rfl)) pa_nil))) pa_nil)))
            (pss_one (ps_set (i := 3) scSomeCh.nd rfl (.inr rfl) (pv 7)))))
          pss_nil))))
    (pss_one (ps_ret (pe_tupF (pa_cons (pv 4) (pa_cons (pv 3) pa_nil)))))), ?_⟩
  obtain ⟨b, a, t, ps, stand, rfl, hb, ha, hpo, ht, gs, nds, ln, ne, q⟩ := h
  have l0 := List.length_pos_iff.mpr ne
  refine ⟨_, rfl, _, rfl, _, rfl, t, _, rfl, .inr ht.sq, ?_⟩
  rw [List.length_map]
  refine ⟨b, _, rfl, hb, by omega, by omega, fun v H1 o1 b1 v0 v1 => ?_⟩
  obtain ⟨n1, rfl⟩ : ∃ n1 : Nat, v = (n1 : Int) := ⟨v.toNat, by omega⟩
  have hn1 : n1 < stand.length := by omega
  have hm := List.getElem?_eq_getElem hn1
  have mm := List.mem_of_getElem? hm
  generalize stand[n1] = mine0 at hm mm
  refine ⟨t, _, (n1 : Int), .str mine0, rfl, rfl, (ht.oth o1 hb).sq, atI_nat (ix_map hm), (by show 0 ≤ sizeLine; decide), fun L hL => ?_⟩
  have s2 := same_upd (o := .lst []) hL
  have e2 : upd H1 L (.lst []) L = some (.lst []) := upd_same
  have nLb : L ≠ b := b1.ne_none hL
  have oL : ∀ o, H L = some o → False := fun o e => by
    rw [o1 _ _ nLb e] at hL
    cases hL
  have b2 := b1.same s2
  generalize upd H1 L (.lst []) = H2 at s2 e2 b2 ⊢
  refine ⟨(by show 2 ≤ sizeLine; decide), fun P hP => ?_⟩
  have s3 := same_upd (o := .tup [.str mine0, .ref L]) hP
  refine ⟨P, _, rfl, .inl (.inl upd_same), rfl, _, _, rfl, _, _, rfl, rfl, ?_⟩
  have e3 := s3 _ _ e2
  have b3 := b2.same s3
  generalize upd H2 P (.tup [.str mine0, .ref L]) = H3 at s3 e3 b3 ⊢
  have o03 := o1.trans (.of (s2.trans s3))
  refine ⟨_, rfl, b, _, rfl, b3, by decide, by decide, fun v4 H4 o4 b4 v40 v41 => ⟨_, _, rfl, rfl, ?_⟩⟩
  have o04 := o03.trans o4
  have e4 := o4 _ _ nLb e3
  refine ⟨_, rfl, by omega, by omega, ?_⟩
  refine for_it (walk_range (lo := 0) (n := ((1 : Int) + v4).toNat)) (fun i σ H' => ∃ (mine : Str) (ts : List B3) (y5 y6 y7 : Option V), σ = [some (.ref b), some (.ref a), some (.ref t), some (.str mine), some (.ref L), y5, y6, y7] ∧ Oth b H H' ∧ IsBox H' b ∧ mine ∈ stand ∧ H' L = some (.lst (refs ts)) ∧ PairsAt H' ts ∧ (∀ c ∈ ts, ChOk stand c) ∧ ts.length ≤ i) ?_ (fun _ _ _ _ _ => trivial) ?_ ?_
  · exact ⟨mine0, [], _, _, _, rfl, o04, b4, mm, e4, (fun _ h => nomatch h), (fun _ h => nomatch h), Nat.le_refl _⟩
  · rintro i x σ H5' H5 hi ⟨mine, ts, y5, y6, y7, rfl, o5, b5, m5, e5, p5, c5, l5⟩ ⟨rfl, rfl⟩
    have t5 := ht.oth o5 hb
    have a5 := ha.oth o5 hb
    obtain ⟨im, him⟩ := List.mem_iff_getElem?.mp m5
    refine ⟨_, rfl, t, rfl, ⟨_, t5.sq⟩, fun S hS => ?_⟩
    refine lc_take (walk_tup (xs := stand.map V.str)) (fun y => !decide (wordsX ps stand mine y = [])) (by omega) hS (fun H' s => (t5.same s).sq) ?_ ?_
    · rintro k y v H6 H6' kk k0 hy s6 ⟨rfl, ex2⟩ k1 k2
      rw [ix_map hy] at ex2
      cases ex2
      have my := List.mem_of_getElem? hy
      refine ⟨rfl, _, rfl, _, rfl, _, rfl, _, rfl, a, t, ps, stand, mine, y, im, k, rfl, a5.same s6, hpo, t5.same s6, gs, nds, by omega, him, hy, fun wp H7 s7 n7 e7 => ?_⟩
      refine ⟨(by show 0 ≤ sizeLine; decide), fun nl hnl => ?_⟩
      have s8 := same_upd (o := .lst []) hnl
      have ew : wordsX ps stand mine y = wordsOf ps stand mine y im k := by rw [wordsX_eq m5 my, idx_at nds him, idx_at nds hy]
      refine ⟨wp, nl, _, rfl, rfl, s8 _ _ e7, upd_same, (fun z hz => (words_three hz).1), _, rfl, ?_⟩
      rw [ew] at k1 k2
      refine ite2 (fun cw => ?_) (fun cw => ?_)
      · exact ⟨_, rfl, k1 cw _ (s7.trans s8)⟩
      · exact k2 (Bool.eq_false_iff.mpr cw) _ (s7.trans s8)
    intro H6 s6 e6
    have mso : ∀ y ∈ stand.filter (fun y => !decide (wordsX ps stand mine y = [])), y ∈ stand ∧ wordsX ps stand mine y ≠ [] := fun y hy => by
      obtain ⟨h1, h2⟩ := List.mem_filter.mp hy
      refine ⟨h1, fun z => ?_⟩
      rw [z] at h2
      cases h2
    have lso : (stand.filter (fun y => !decide (wordsX ps stand mine y = []))).length ≤ 60 := Nat.le_trans (List.length_filter_le _ _) ln
    generalize stand.filter (fun y => !decide (wordsX ps stand mine y = [])) = so at e6 mso lso
    have o6 := o5.trans (.of s6)
    have b6 := b5.same s6
    refine ⟨_, rfl, (by show 0 ≤ sizeLine; decide), fun nl hnl => ?_⟩
    have s7 := same_upd (o := .lst []) hnl
    refine ⟨S, nl, _, rfl, rfl, s7 _ _ e6, upd_same, (fun z hz => gs z (mso z hz).1), _, rfl, ?_⟩
    have e7 := s7 _ _ e6
    have b7 := b6.same s7
    generalize upd H6 nl (.lst []) = H7 at s7 e7 b7 ⊢
    have o7 := o6.trans (.of s7)
    have s57 := s6.trans s7
    have nSb : S ≠ b := b5.ne_none hS
    by_cases es : so = []
    · rw [decide_eq_true es]
      exact ⟨mine, ts, _, _, _, rfl, o7, b7, m5, s57 _ _ e5, p5.same s57, c5, by omega⟩
    rw [decide_eq_false es]
    have lp := List.length_pos_iff.mpr es
    refine ⟨_, rfl, _, rfl, _, rfl, S, _, rfl, .inl (.inl (.inl e7)), ?_⟩
    rw [List.length_map]
    refine ⟨b, _, rfl, b7, by omega, by omega, fun v8 H8 o8 b8 v80 v81 => ?_⟩
    obtain ⟨n8, rfl⟩ : ∃ n8 : Nat, v8 = (n8 : Int) := ⟨v8.toNat, by omega⟩
    have hn8 : n8 < so.length := by omega
    have hy := List.getElem?_eq_getElem hn8
    have my := mso _ (List.mem_of_getElem? hy)
    generalize so[n8] = y at hy my
    have o08 := o7.trans o8
    have e8 := o8 _ _ nSb e7
    refine ⟨S, _, (n8 : Int), .str y, rfl, rfl, .inl (.inl e8), atI_nat (ix_map hy), ?_⟩
    obtain ⟨jy, hjy⟩ := List.mem_iff_getElem?.mp my.1
    have ew : wordsX ps stand mine y = wordsOf ps stand mine y im jy := by rw [wordsX_eq m5 my.1, idx_at nds him, idx_at nds hjy]
    have e8L := o8 _ _ nLb (s57 _ _ e5)
    refine ⟨_, rfl, .inl ⟨rfl, _, .inl (.inl e8L)⟩, _, rfl, _, rfl, _, rfl, _, rfl, _, rfl, a, t, ps, stand, mine, y, im, jy, rfl, ha.oth o08 hb, hpo, ht.oth o08 hb, gs, nds, by omega, him, hjy, fun wp H9 s9 n9 e9 => ?_⟩
    obtain ⟨c0, w0, ec⟩ : ∃ c0 w0, wordsOf ps stand mine y im jy = c0 ++ [w0] := by
      rcases List.eq_nil_or_concat (wordsOf ps stand mine y im jy) with h | ⟨c0, w0, h⟩
      · rw [ew] at my
        exact absurd h my.2
      · exact ⟨c0, w0, by rw [h, List.concat_eq_append]⟩
    have w0k := words_three (by rw [ec]; exact List.mem_append_right _ (List.mem_singleton_self _) : w0 ∈ wordsOf ps stand mine y im jy)
    rw [ec] at e9
    have o09 := o08.trans (.of s9)
    refine ⟨(1 : Int), rfl, wp, _, (-1 : Int), .str w0, rfl, rfl, .inl (.inl e9), (by rw [List.map_append]; exact atI_last _ _), (by show 2 ≤ sizeLine; decide), fun T n10 => ?_⟩
    have s10 := same_upd (o := .tup [.str mine, .str w0]) n10
    have e10 : upd H9 T (.tup [.str mine, .str w0]) T = some (.tup [.str mine, .str w0]) := upd_same
    have b10 := (b8.same s9).same s10
    have s810 := s9.trans s10
    generalize upd H9 T (.tup [.str mine, .str w0]) = H10 at s10 e10 b10 s810 ⊢
    have e10L := s810 _ _ e8L
    refine ⟨L, _, _, rfl, rfl, e10L, ?_, ?_⟩
    · unfold refs
      rw [List.length_map]
      exact small1000 (by omega)
    have p8 := (p5.same s57).oth o8 b7
    have up : ∀ {z : Addr} {xs : List V}, H10 z = some (.tup xs) → upd H10 L (.lst (refs ts ++ [.ref T])) z = some (.tup xs) := fun {z xs} h => by
      rw [upd_ne (fun e => by rw [e, e10L] at h; cases h)]
      exact h
    refine ⟨_, rfl, y, ts ++ [(T, mine, w0)], _, _, _, rfl, fun z o nz e => ?_, ?_, my.1, ?_, ?_, ?_, ?_⟩
    · rw [upd_ne ?_]
      · exact s810 _ _ (o08 z o nz e)
      · intro e0
        rw [e0] at e
        have := oL _ e
        exact this
    · unfold IsBox at b10 ⊢
      rw [upd_ne (Ne.symm nLb)]
      exact b10
    · rw [upd_same]
      unfold refs
      rw [List.map_append]
      rfl
    · intro c hc
      rcases List.mem_append.mp hc with h | h
      · exact up (s810 _ _ (p8 c h))
      · rw [List.mem_singleton.mp h]
        exact up e10
    · intro c hc
      rcases List.mem_append.mp hc with h | h
      · exact c5 c h
      · rw [List.mem_singleton.mp h]
        exact ⟨m5, w0k⟩
    · rw [List.length_append]
      show ts.length + 1 ≤ i + 1
      omega
  · rintro σ H5 ⟨mine, ts, y5, y6, y7, rfl, o5, b5, m5, e5, p5, c5, l5⟩
    refine ⟨_, rfl, _, rfl, (by show 2 ≤ sizeLine; decide), fun T H6 s6 n6 e6 => ?_⟩
    exact q T L ts mine H6 (o5.trans (.of s6)) (b5.same s6) e6 nLb (s6 _ _ e5) (p5.same s6) c5 (by omega) m5
/-! ### _law_seen_right -/
abbrev sSeR : Stmt := topS 55
abbrev nSeenR : List Str := ["_law_box_here", "_law_pals_here", "_law_stand", "_law_matter", "_law_kept", "_law_mine", "_law_its", "_law_due", "_law_told"]
abbrev pSeenR : List Str := ["_law_box_here", "_law_pals_here", "_law_stand", "_law_matter"]
theorem scSeenR : FnScope nSeenR pSeenR (defScope sSeR) := ⟨rfl, rfl, rfl, by decide +kernel, rfl, by decide +kernel, by decide +kernel⟩
-- slots: 0:box_here 1:pals_here 2:stand 3:matter 4:kept 5:mine 6:its 7:due 8:told
theorem ok_seenX {f : Addr} {fd : FuncData} (B : Blt mg) (CIsCh : Cal P w K mg base 5 "_law_is_chain" ["_law_pals_here", "_law_stand", "_law_mine", "_law_its", "_law_matter"] spChX) (CIo : Cal P w K mg base 4 "_law_is_order" ["_law_pals_here", "_law_stand", "_law_matter"] spOrdX) (CIr : Cal P w K mg base 5 "_law_is_ring" ["_law_pals_here", "_law_stand", "_law_matter"] spRgX) (CSa : Cal P w K mg base 2 "_law_same" ["_law_found", "_law_due"] (spSame 2)) (CT : Cal P w K mg base 1 "_law_take" ["_law_box_here", "_law_many"] spTake) (CSc : Cal P w K mg base 4 "shows_chain" ["friends", "row", "one", "other", "thing"] spShCX) (CSh : Cal P w K mg base 6 "shows_order" ["friends", "row", "thing"] spShOX) (CSr : Cal P w K mg base 4 "shows_ring" ["friends", "row", "thing"] spShRX) (F : Fun K "_law_seen_right" "_law_seen_right" sSeR f fd) : FnOk P w K mg base CX0 7 f fd pSeenR spSeenX := by
  refine fok F scSeenR (fun vs H Q E h => ?_) (fun cdv A outer s H vs Q E hr h => ?_)
  · obtain ⟨b, a, t, v, bad, ps, stand, d, n, rfl, _⟩ := h
    rfl
  have hu := hu_of hr
  refine ⟨_, pss_cons (ps_par (i := 4) (j := 5) (by rfl) scSeenR.nd rfl rfl (by decide) rfl rfl (pa_cons (pe_callB (call_reprD hr) (by rfl) B.repr (by decide +kernel) (pa_cons (pv 3) pa_nil)) (pa_cons (pe_ix ix_tup (pv 2) (pe_cal CT hr (pa_cons (pv 0) (pa_cons (pe_callB call_len_seq (by rfl) B.len PySem.boot_len (pa_cons (pv 2) pa_nil)) pa_nil))) (fun _ _ => rfl)) pa_nil)) (by rfl))
    (pss_cons (ps_set (i := 6) scSeenR.nd rfl (.inl rfl) (pe_ix ix_tup (pv 2) (pe_cal CT hr (pa_cons (pv 0) (pa_cons (pe_callB call_len_seq (by rfl) B.len PySem.boot_len (pa_cons (pv 2) pa_nil)) pa_nil))) (fun _ _ => rfl)))
    (pss_cons (ps_set (i := 7) scSeenR.nd rfl (.inl rfl) (pe_lst (pa_cons (pe_cal CIo hr (pa_cons (pv 1) (pa_cons (pv 2) (pa_cons (pv 3) pa_nil)))) (pa_cons (pe_cal CIr hr (pa_cons (pv 1) (pa_cons (pv 2) (pa_cons (pv 3) pa_nil)))) pa_nil))))
    (pss_cons (ps_expr (pe_bm PySem.F.plainAttrs_list PySem.F.slot_list_append PySem.F.type_list_append mt_append (pv 7) (pa_cons (pe_cal CIsCh hr (pa_cons (pv 1) (pa_cons (pv 2) (pa_cons (pv 5) (pa_cons (pv 6) (pa_cons (pv 3) pa_nil)))))) pa_nil)))
    (pss_cons (ps_set (i := 8) scSeenR.nd rfl (.inl rfl) (pe_lst (pa_cons (pe_cal CSh hr (pa_cons (pv 1) (pa_cons (pv 2) (pa_cons (pv 3) pa_nil)))) (pa_cons (pe_cal CSr hr (pa_cons (pv 1) (pa_cons (pv 2) (pa_cons (pv 3) pa_nil)))) pa_nil))))
    (pss_cons (ps_expr (pe_bm PySem.F.plainAttrs_list PySem.F.slot_list_append PySem.F.type_list_append mt_append (pv 8) (pa_cons (pe_cal CSc hr (pa_cons (pv 1) (pa_cons (pv 2) (pa_cons (pv 5) (pa_cons (pv 6) (pa_cons (pv 3) pa_nil)))))) pa_nil)))
    (pss_one (ps_ret (pe_and (pe_cal CSa hr (pa_cons (pv 8) (pa_cons (pv 7) pa_nil))) (pe_one (pe_cmpR op_eq (pe_callB (call_reprD hr) (by rfl) B.repr (by decide +kernel) (pa_cons (pv 3) pa_nil)) (pv 4) (nomark _))))))))))), ?_⟩
  obtain ⟨b, a, t, v, bad, ps, stand, d, n, rfl, hb, ha, hpo, hpl, ht, nm, nds, ln, ne, bb, tr, ok, n10, h64, q⟩ := h
  have gs : Goods stand := fun x hx => (nm x hx).good
  have l0 := List.length_pos_iff.mpr ne
  refine ⟨_, rfl, v, bad, d, n, 10000, rfl, tr, ok, by omega, by decide, ?_⟩
  refine ⟨_, rfl, _, rfl, _, rfl, t, _, rfl, .inr ht.sq, ?_⟩
  rw [List.length_map]
  refine ⟨b, _, rfl, hb, by omega, by omega, fun v1 H1 o1 b1 v10 v11 => ?_⟩
  obtain ⟨n1, rfl⟩ : ∃ n1 : Nat, v1 = (n1 : Int) := ⟨v1.toNat, by omega⟩
  have hn1 : n1 < stand.length := by omega
  have hm1 := List.getElem?_eq_getElem hn1
  have mm1 := List.mem_of_getElem? hm1
  generalize stand[n1] = mine at hm1 mm1
  have t1 := ht.oth o1 hb
  refine ⟨t, _, (n1 : Int), .str mine, rfl, rfl, t1.sq, atI_nat (ix_map hm1), _, _, rfl, ?_⟩
  refine ⟨_, rfl, _, rfl, _, rfl, t, _, rfl, .inr t1.sq, ?_⟩
  rw [List.length_map]
  refine ⟨b, _, rfl, b1, by omega, by omega, fun v2 H2 o2 b2 v20 v21 => ?_⟩
  obtain ⟨n2, rfl⟩ : ∃ n2 : Nat, v2 = (n2 : Int) := ⟨v2.toNat, by omega⟩
  have hn2 : n2 < stand.length := by omega
  have hm2 := List.getElem?_eq_getElem hn2
  have mm2 := List.mem_of_getElem? hm2
  generalize stand[n2] = its at hm2 mm2
  have t2 := t1.oth o2 b1
  refine ⟨t, _, (n2 : Int), .str its, rfl, rfl, t2.sq, atI_nat (ix_map hm2), ?_⟩
  have o02 := o1.trans o2
  have a2 := ha.oth o02 hb
  have tr2 := tr.oth o02 bb
  have h90 : (itemsD d).length ≤ 90 := by omega
  refine ⟨_, rfl, _, rfl, _, rfl, a, t, v, bad, ps, stand, d, n, rfl, a2, hpo, t2, gs, by omega, tr2, ok, h64, fun H3 s3 => ?_⟩
  refine ⟨_, rfl, _, rfl, _, rfl, a, t, v, bad, ps, stand, d, rfl, a2.same s3, hpo, t2.same s3, gs, nds, by omega, tr2.same s3, h90, fun H4 s4 => ?_⟩
  refine ⟨(by show 2 ≤ sizeLine; decide), fun D hD => ?_⟩
  have s24 := s3.trans s4
  have s5 := same_upd (o := .lst [.bl (orderL ps stand d), .bl (ringL ps stand d)]) hD
  have e5 : upd H4 D (.lst [.bl (orderL ps stand d), .bl (ringL ps stand d)]) D = some (.lst [.bl (orderL ps stand d), .bl (ringL ps stand d)]) := upd_same
  generalize upd H4 D (.lst [.bl (orderL ps stand d), .bl (ringL ps stand d)]) = H5 at s5 e5 ⊢
  have s25 := s24.trans s5
  refine ⟨_, rfl, .inl ⟨rfl, _, .inl (.inl e5)⟩, _, rfl, _, rfl, _, rfl, _, rfl, _, rfl, a, t, mine, its, v, bad, ps, stand, d, rfl, a2.same s25, hpo, t2.same s25, gs, nds, by omega, mm2, tr2.same s25, h90, fun H6 s6 => ?_⟩
  have e6 := s6 _ _ e5
  have s26 := s25.trans s6
  refine ⟨D, _, _, rfl, rfl, e6, (by show 2 < sizeLine; decide), ?_⟩
  have s27 : Same H2 (upd H6 D (.lst ([.bl (orderL ps stand d), .bl (ringL ps stand d)] ++ [.bl (chainL ps stand mine its d)]))) := fun z o e => by
    rw [upd_ne (fun e0 => by
      rw [e0] at e
      rw [s24 _ _ e] at hD
      cases hD)]
    exact s26 _ _ e
  have e7 : upd H6 D (.lst ([.bl (orderL ps stand d), .bl (ringL ps stand d)] ++ [.bl (chainL ps stand mine its d)])) D = some (.lst ([orderL ps stand d, ringL ps stand d, chainL ps stand mine its d].map V.bl)) := upd_same
  generalize upd H6 D (.lst ([.bl (orderL ps stand d), .bl (ringL ps stand d)] ++ [.bl (chainL ps stand mine its d)])) = H7 at s27 e7 ⊢
  refine ⟨_, rfl, _, rfl, _, rfl, a, t, v, bad, ps, stand, d, rfl, (a2.same s27).fr, hpl, .inl (t2.same s27), gs, tr2.same s27, ok.fit.wt, h90, fun H8 s8 => ?_⟩
  have s28 := s27.trans s8
  refine ⟨_, rfl, _, rfl, _, rfl, a, t, v, bad, ps, stand, d, n, rfl, (a2.same s28).fr, hpl, .inl (t2.same s28), by omega, nds, tr2.same s28, ok, by omega, h90, fun H9 s9 => ?_⟩
  have s29 := s28.trans s9
  refine ⟨(by show 2 ≤ sizeLine; decide), fun E' hE => ?_⟩
  have s10 := same_upd (o := .lst [.bl (orderP ps stand d), .bl (ringP ps stand d)]) hE
  have e10 : upd H9 E' (.lst [.bl (orderP ps stand d), .bl (ringP ps stand d)]) E' = some (.lst [.bl (orderP ps stand d), .bl (ringP ps stand d)]) := upd_same
  generalize upd H9 E' (.lst [.bl (orderP ps stand d), .bl (ringP ps stand d)]) = H10 at s10 e10 ⊢
  have s210 := s29.trans s10
  refine ⟨_, rfl, .inl ⟨rfl, _, .inl (.inl e10)⟩, _, rfl, _, rfl, _, rfl, _, rfl, _, rfl, a, t, mine, its, v, bad, ps, stand, d, n, rfl, (a2.same s210).fr, hpl, .inl (t2.same s210), by omega, nds, tr2.same s210, ok, by omega, h90, fun H11 s11 => ?_⟩
  have e11 := s11 _ _ e10
  have s211 := s210.trans s11
  refine ⟨E', _, _, rfl, rfl, e11, (by show 2 < sizeLine; decide), ?_⟩
  have s79 := s8.trans s9
  have nE : ∀ {z : Addr} {o : HO}, H7 z = some o → z ≠ E' := fun {z o} e e0 => by
    rw [e0] at e
    rw [s79 _ _ e] at hE
    cases hE
  have s712 : Same H7 (upd H11 E' (.lst ([.bl (orderP ps stand d), .bl (ringP ps stand d)] ++ [.bl (chainP ps stand mine its d)]))) := fun z o e => by
    rw [upd_ne (nE e)]
    exact s11 _ _ (s10 _ _ (s79 _ _ e))
  have e12 : upd H11 E' (.lst ([.bl (orderP ps stand d), .bl (ringP ps stand d)] ++ [.bl (chainP ps stand mine its d)])) E' = some (.lst ([orderP ps stand d, ringP ps stand d, chainP ps stand mine its d].map V.bl)) := upd_same
  generalize upd H11 E' (.lst ([.bl (orderP ps stand d), .bl (ringP ps stand d)] ++ [.bl (chainP ps stand mine its d)])) = H12 at s712 e12 ⊢
  rw [← order_eq nm nds d, ← ring_eq nm d, ← chain_eq nm d] at e12
  refine ⟨_, rfl, _, rfl, _, _, rfl, alk_bls e12 (s712 _ _ e7) (by show 3 ≤ 1000; decide), fun H13 s13 => ⟨_, rfl, ?_⟩⟩
  have s213 := (s27.trans s712).trans s13
  refine iteT ⟨_, rfl, v, bad, d, n, 10000, rfl, tr2.same s213, ok, by omega, by decide, _, rfl, rfl, ?_⟩
  rw [decide_eq_true rfl]
  exact q _ (o02.trans (.of s213)) (b2.same s213)
/-! ### _law_odd -/
abbrev sOdd : Stmt := topS 47
abbrev nOdd : List Str := ["_law_box_here", "_law_matter", "_law_some"]
abbrev pOdd : List Str := ["_law_box_here", "_law_matter"]
theorem scOdd : FnScope nOdd pOdd (defScope sOdd) := ⟨rfl, rfl, rfl, by decide +kernel, rfl, by decide +kernel, by decide +kernel⟩
-- slots: 0:box_here 1:matter 2:some
theorem ok_odd {f : Addr} {fd : FuncData} (B : Blt mg) (CT : Cal P w K mg base 1 "_law_take" ["_law_box_here", "_law_many"] spTake) (F : Fun K "_law_odd" "_law_odd" sOdd f fd) : FnOk P w K mg base CX0 2 f fd pOdd spOddO := by
  refine fok F scOdd (fun vs H Q E h => ?_) (fun cdv A outer s H vs Q E hr h => ?_)
  · obtain ⟨b, bad, d, v, m, w, rfl, _⟩ := h
    rfl
  have hu := hu_of hr
  refine ⟨_, pss_cons (ps_set (i := 2) scOdd.nd rfl (.inl rfl) (pe_lst (pa_cons pe_non (pa_cons pe_bl (pa_cons pe_bl (pa_cons pe_int (pa_cons pe_int (pa_cons (pe_un un_neg pe_int) (pa_cons pe_str (pa_cons pe_str (pa_cons pe_str (pa_cons pe_str (pa_cons pe_str (pa_cons (pe_tupF pa_nil) (pa_cons (pe_lst pa_nil) (pa_cons (pe_tupF (pa_cons pe_str pa_nil)) (pa_cons (pe_tupF (pa_cons pe_str (pa_cons pe_str pa_nil))) (pa_cons (pe_lst (pa_cons pe_str (pa_cons pe_str pa_nil))) pa_nil))))))))))))))))))
    (pss_cons (ps_mid <| ps_if (pt_val (pe_callB call_isi (by rfl) B.isinstance (by decide +kernel) (pa_cons (pv 1) (pa_cons (pe_bltn (v := .ty "str") (by rfl) B.str (by decide +kernel) rfl) pa_nil))))
      (pss_one (ps_set (i := 2) scOdd.nd rfl (.inl rfl) (pe_op op_cat (pv 2) (pe_lst (pa_cons (pe_op op_add_str (pv 1) pe_str) (pa_cons (pe_slice sl_str (pv 1) (po_some pe_int) po_none) (pa_cons (pe_bm0 PySem.F.plainAttrs_str PySem.F.slot_str_upper PySem.F.type_str_upper mt_upper (pv 1)) (pa_cons (pe_op op_add_str (pv 1) pe_str) (pa_cons (pe_tupF (pa_cons (pv 1) pa_nil)) pa_nil)))))))))
      pss_nil)
    (pss_cons (ps_mid <| ps_if (pt_val (pe_callB call_isiT (by rfl) B.isinstance (by decide +kernel) (pa_cons (pv 1) (pa_cons (pe_tup (pa_cons (pe_bltn (v := .ty "list") (by rfl) B.list (by decide +kernel) rfl) (pa_cons (pe_bltn (v := .ty "tuple") (by rfl) B.tuple (by decide +kernel) rfl) pa_nil))) pa_nil))))
      (pss_one (ps_set (i := 2) scOdd.nd rfl (.inl rfl) (pe_op op_cat (pv 2) (pe_lst (pa_cons (pe_callTy call_listN (by rfl) B.list (by decide +kernel) (pa_cons (pv 1) pa_nil)) (pa_cons (pe_mid (pe_callTy call_tupleF (by rfl) B.tuple (by decide +kernel) (pa_cons (pv 1) pa_nil))) (pa_cons (pe_mid (pe_op op_dblX (pv 1) (pv 1))) (pa_cons (pe_mid (pe_revX (pv 1))) (pa_cons (pe_mid (pe_slice sl_X (pv 1) (po_some pe_int) po_none)) (pa_cons (pe_mid (pe_slice sl_X (pv 1) po_none (po_some (pe_un un_neg pe_int)))) pa_nil))))))))))
      pss_nil)
    (pss_cons (ps_mid <| ps_if (pt_val (pe_callB call_isi (by rfl) B.isinstance (by decide +kernel) (pa_cons (pv 1) (pa_cons (pe_bltn (v := .ty "int") (by rfl) B.int (by decide +kernel) rfl) pa_nil))))
      (pss_one (ps_set (i := 2) scOdd.nd rfl (.inl rfl) (pe_op op_cat (pv 2) (pe_lst (pa_cons (pe_op op_addNum (pv 1) pe_int) (pa_cons (pe_op op_subNum (pv 1) pe_int) (pa_cons (pe_mid (pe_callTy call_strNum (by rfl) B.str (by decide +kernel) (pa_cons (pv 1) pa_nil))) (pa_cons (pe_cmpR (op_eqD hr.units) (pv 1) pe_int (nomark _)) pa_nil))))))))
      pss_nil)
    (pss_one (ps_ret (pe_ix ix_list (pv 2) (pe_cal CT hr (pa_cons (pv 0) (pa_cons (pe_callB call_len_seq (by rfl) B.len PySem.boot_len (pa_cons (pv 2) pa_nil)) pa_nil))) (fun _ _ => rfl))))))), ?_⟩
  obtain ⟨b, bad, d, v, m, w, rfl, hb, bb, old, tr, ok, wl, big, q⟩ := h
  -- what is always there
  refine ⟨1, rfl, (by show 0 ≤ sizeLine; decide), fun t0 H1 s1 n1 e1 => ?_⟩
  refine ⟨(by show 0 ≤ sizeLine; decide), fun l0 hl0 => ?_⟩
  have s2 := same_upd (o := .lst []) hl0
  have e2 : upd H1 l0 (.lst []) l0 = some (.lst []) := upd_same
  generalize upd H1 l0 (.lst []) = H2 at s2 e2 ⊢
  refine ⟨(by show 1 ≤ sizeLine; decide), fun t1 H3 s3 n3 e3 => ?_⟩
  refine ⟨(by show 2 ≤ sizeLine; decide), fun t2 H4 s4 n4 e4 => ?_⟩
  refine ⟨(by show 2 ≤ sizeLine; decide), fun l1 hl1 => ?_⟩
  have s5 := same_upd (o := .lst [.str "a", .str "b"]) hl1
  have e5 : upd H4 l1 (.lst [.str "a", .str "b"]) l1 = some (.lst [.str "a", .str "b"]) := upd_same
  generalize upd H4 l1 (.lst [.str "a", .str "b"]) = H5 at s5 e5 ⊢
  refine ⟨(by show 16 ≤ sizeLine; decide), fun L hL => ?_⟩
  have B1 := hb.same s1
  have B2 := B1.same s2
  have B3 := B2.same s3
  have B4 := B3.same s4
  have B5 := B4.same s5
  have f4 := s5
  have f3 := s4.trans f4
  have f2 := s3.trans f3
  have f1 := s2.trans f2
  have f0 := s1.trans f1
  have old' : ∀ {H' : Hp}, Same H H' → ∀ a, bad a → H' a ≠ none := fun s a ha => by
    obtain ⟨o, ho⟩ := Option.ne_none_iff_exists'.mp (old a ha)
    rw [s a o ho]
    exact nofun
  have TA : TrAll bad H5 [.none, .bool true, .bool false, .int 0, .int 1, .int (-1), .str "", .str "a", .str "abcdefghi", .str "A", .str "a b", .tuple [], .list [], .tuple [.str "a"], .tuple [.str "a", .str "a"], .list [.str "a", .str "b"]] [.non, .bl true, .bl false, .int 0, .int 1, .int (-1), .str "", .str "a", .str "abcdefghi", .str "A", .str "a b", .ref t0, .ref l0, .ref t1, .ref t2, .ref l1] := by
    have nt0 := old_new old n1
    have nl0 := old_new (old' s1) hl0
    have nt1 := old_new (old' (s1.trans s2)) n3
    have nt2 := old_new (old' ((s1.trans s2).trans s3)) n4
    have nl1 := old_new (old' (((s1.trans s2).trans s3).trans s4)) hl1
    exact .cons (by simp only [Tr]) (.cons (by simp only [Tr]) (.cons (by simp only [Tr]) (.cons (by simp only [Tr]) (.cons (by simp only [Tr]) (.cons (by simp only [Tr]) (.cons (tr_str _) (.cons (tr_str _) (.cons (tr_str _) (.cons (tr_str _) (.cons (tr_str _) (.cons (tr_tup nt0 (.inr (e1.same f1)) .nil) (.cons (tr_lst nl0 (f2 _ _ e2) .nil) (.cons (tr_tup nt1 (.inr (e3.same f3)) (TrAll.strs ["a"])) (.cons (tr_tup nt2 (.inr (e4.same f4)) (TrAll.strs ["a", "a"])) (.cons (tr_lst nl1 e5 (TrAll.strs ["a", "b"])) .nil)))))))))))))))
  have w60 : 60 ≤ 3 * w + 60 := by omega
  have TH : ∀ d' ∈ ([.none, .bool true, .bool false, .int 0, .int 1, .int (-1), .str "", .str "a", .str "abcdefghi", .str "A", .str "a b", .tuple [], .list [], .tuple [.str "a"], .tuple [.str "a", .str "a"], .list [.str "a", .str "b"]] : List PyData), OddOk m w d d' := fun d' hd => by
    obtain ⟨o1, o2, o3, o4⟩ := odd0_ok d' hd
    exact ⟨o1.mono (by omega) w60, by omega, by omega, .str "a", .str "b", fun c hc => by rcases o4 c hc with h | h <;> simp [h]⟩
  have lTA := TA.len
  generalize ([.none, .bool true, .bool false, .int 0, .int 1, .int (-1), .str "", .str "a", .str "abcdefghi", .str "A", .str "a b", .tuple [], .list [], .tuple [.str "a"], .tuple [.str "a", .str "a"], .list [.str "a", .str "b"]] : List PyData) = D0 at TA TH lTA
  have lD0 : D0.length = 16 := lTA.symm
  generalize ([.non, .bl true, .bl false, .int 0, .int 1, .int (-1), .str "", .str "a", .str "abcdefghi", .str "A", .str "a b", .ref t0, .ref l0, .ref t1, .ref t2, .ref l1] : List V) = X0 at TA lTA ⊢
  have s6 := same_upd (o := .lst X0) hL
  have e6 : upd H5 L (.lst X0) L = some (.lst X0) := upd_same
  have TA6 := TA.same s6
  have B6 := B5.same s6
  have nL := B5.ne_none hL
  have f6 := f0.trans s6
  generalize upd H5 L (.lst X0) = H6 at s6 e6 TA6 B6 f6 ⊢
  clear s1 s2 s3 s4 s5 f0 f1 f2 f3 f4 B1 B2 B3 B4 B5 e1 e2 e3 e4 e5 n1 hl0 n3 n4 hl1 TA hL s6
  -- a text
  refine ⟨fun σ' H' => ∃ (S : Addr) (D : List PyData) (X : List V), σ' = [some (.ref b), some v, some (.ref S)] ∧ Same H H' ∧ H' S = some (.lst X) ∧ TrAll bad H' D X ∧ (∀ d' ∈ D, OddOk m w d d') ∧ 16 ≤ D.length ∧ D.length ≤ 21 ∧ S ≠ b, ?_, ?_⟩
  · refine ⟨_, rfl, _, _, _, _, _, rfl, .ty _, (tr.same f6).ty, isi_S d, _, rfl, ite2 (fun c => ?_) (fun c => ?_)⟩
    rotate_left
    · exact ⟨L, D0, X0, rfl, f6, e6, TA6, TH, by omega, by omega, nL⟩
    obtain ⟨x, rfl⟩ := is_str c
    simp only [Tr] at tr
    subst tr
    have gx : Good x := show PyData.strOk x = true by have := ok.lay; simpa only [PyData.canLay0] using this
    have lx : x.length ≤ w := show x.cps.size ≤ w by have := ok.fit.wt; simpa only [PyData.weight] using this
    have ga : Good "a" := by show PyData.strOk _ = true; decide +kernel
    have gs : Good " " := by show PyData.strOk _ = true; decide +kernel
    have l1 : (Str.ofString "a").length = 1 := by decide +kernel
    have l2 : (Str.ofString " ").length = 1 := by decide +kernel
    have lc := cutS_length x (some 1) none
    have lu := PyProof.Rows.len_upper x
    have txt : ∀ y : Str, Good y → y.length ≤ 3 * w + 60 → OddOk m w (.str x) (.str y) := fun y g l => ⟨(okd_str g l).mono (Nat.zero_le _) (Nat.le_refl _), by simp only [widD]; omega, by simp only [bigD]; omega, .none, .none, fun _ h => nomatch h⟩
    have sz : ∀ n : Nat, n ≤ 300100 → n ≤ sizeLine := fun n h => Nat.le_trans h (by decide)
    refine ⟨_, rfl, _, rfl, x, _, rfl, rfl, sz _ (by omega), _, rfl, _, rfl, x, rfl, sz _ (by omega), _, rfl, rfl, x, rfl, rfl, by omega, _, rfl, x, _, rfl, rfl, sz _ (by omega), _, rfl, (by show 1 ≤ sizeLine; decide), fun t H7 s7 n7 e7 => ?_⟩
    refine ⟨(by show 5 ≤ sizeLine; decide), fun l hl => ?_⟩
    have s8 := same_upd (o := .lst [.str (x ++ "a"), .str (cutS x (some 1) none), .str (Txt.upper x), .str (x ++ " "), .ref t]) hl
    have e8 : upd H7 l (.lst [.str (x ++ "a"), .str (cutS x (some 1) none), .str (Txt.upper x), .str (x ++ " "), .ref t]) l = some (.lst [.str (x ++ "a"), .str (cutS x (some 1) none), .str (Txt.upper x), .str (x ++ " "), .ref t]) := upd_same
    generalize upd H7 l (.lst [.str (x ++ "a"), .str (cutS x (some 1) none), .str (Txt.upper x), .str (x ++ " "), .ref t]) = H8 at s8 e8 ⊢
    have lX0 := TA6.len
    refine ⟨L, l, _, _, rfl, rfl, s8 _ _ (s7 _ _ e6), e8, small_le (by show X0.length + 5 ≤ _; omega), fun L2 hL2 => ?_⟩
    have s9 := same_upd (o := .lst (X0 ++ [.str (x ++ "a"), .str (cutS x (some 1) none), .str (Txt.upper x), .str (x ++ " "), .ref t])) hL2
    have s69 := (s7.trans s8).trans s9
    have la : (x ++ "a").length = x.length + 1 := by show (x.cps ++ ("a" : Str).cps).size = _; rw [Array.size_append]; rfl
    have ls : (x ++ " ").length = x.length + 1 := by show (x.cps ++ (" " : Str).cps).size = _; rw [Array.size_append]; rfl
    refine ⟨L2, D0 ++ [.str (x ++ "a"), .str (cutS x (some 1) none), .str (Txt.upper x), .str (x ++ " "), .tuple [.str x]], _, rfl, f6.trans s69, upd_same, (TA6.same s69).app (.cons (tr_str _) (.cons (tr_str _) (.cons (tr_str _) (.cons (tr_str _) (.cons (tr_tup (old_new (old' f6) n7) (.inr ((e7.same s8).same s9)) (TrAll.strs [x])) .nil))))), fun d' hd => ?_, by rw [List.length_append]; omega, by rw [List.length_append]; show D0.length + 5 ≤ 21; omega, ((B6.same s7).same s8).ne_none hL2⟩
    rcases List.mem_append.mp hd with z | z
    · exact TH d' z
    simp only [List.mem_cons, List.not_mem_nil, or_false] at z
    rcases z with z | z | z | z | z <;> subst z
    · exact txt _ (app_good gx ga) (by omega)
    · exact txt _ (cut_good gx) (by omega)
    · exact txt _ (upper_good gx) (by omega)
    · exact txt _ (app_good gx gs) (by omega)
    · refine ⟨(okd_tuple (OkL.of (n := 0) (w := x.length) (w' := x.length + 1) (fun c hc => by rw [List.mem_singleton.mp hc]; exact okd_str gx (Nat.le_refl _)) ?_)).mono (by omega) (by omega), by simp [widD, widAll], by simp [bigD, bigAll], .str x, .str x, fun c hc => .inl (List.mem_singleton.mp (show c ∈ [PyData.str x] from hc))⟩
      simp only [PyData.weightAll, PyData.weight]
      exact Nat.le_refl _
  clear e6 TA6 B6 f6 TH lD0 lTA nL
  rintro σ' H10 ⟨S, D, X, rfl, f10, e10, T10, TH, lD16, lD21, nS⟩
  -- a list or a tuple
  refine ⟨fun σ' H' => ∃ (S : Addr) (D : List PyData) (X : List V), σ' = [some (.ref b), some v, some (.ref S)] ∧ Same H H' ∧ H' S = some (.lst X) ∧ TrAll bad H' D X ∧ (∀ d' ∈ D, OddOk m w d d') ∧ 16 ≤ D.length ∧ D.length ≤ 27 ∧ S ≠ b, ?_, ?_⟩
  · have tr10 := tr.same f10
    refine ⟨_, rfl, (by show 2 ≤ sizeLine; decide), fun tp htp => ?_⟩
    have s11 := same_upd (o := .tup [.ty "list", .ty "tuple"]) htp
    refine ⟨_, tp, _, _, _, _, rfl, upd_same, .cons (.ty _) (.cons (.ty _) .nil), (tr10.same s11).ty, isi_LT d, _, rfl, ?_⟩
    have e11 := s11 _ _ e10
    have T11 := T10.same s11
    have f11 := f10.trans s11
    have tr11 := tr10.same s11
    generalize upd H10 tp (.tup [.ty "list", .ty "tuple"]) = H11 at s11 e11 T11 f11 tr11 ⊢
    clear e10 T10 s11 htp tr10
    cases es : isL d || isT d with
    | false => exact ⟨S, D, X, rfl, f11, e11, T11, TH, by omega, by omega, nS⟩
    | true =>
    obtain ⟨ds, a, xs, ed, rfl, na, ha, tx⟩ := Tr.items es tr11
    obtain ⟨mm, rfl⟩ : ∃ mm, m = mm + 1 := by
      rcases ed with e | e <;> subst e
      · exact okd_deep (.inl ok)
      · exact okd_deep (.inr ok)
    have oks : OkL mm w ds := by
      rcases ed with e | e <;> subst e
      · exact okd_items (.inl ok)
      · exact okd_items (.inr ok)
    have it : itemsD d = ds := by rcases ed with e | e <;> rw [e] <;> rfl
    have lxs := tx.len
    have wds := oks.2
    have lds := weight_len ds
    have wlen := wid_len ed
    have fin : ∀ es : List PyData, (∀ c ∈ es, c ∈ ds) → PyData.weightAll es ≤ 2 * w → es.length ≤ 2 * ds.length → ∀ d', (d' = .list es ∨ d' = .tuple es) → OddOk (mm + 1) w d d' := fun es me we le d' e' => by
      have o : OkL mm (2 * w) es := OkL.of (fun c hc => oks.1 c (me c hc)) we
      have i' : itemsD d' = es := by rcases e' with e | e <;> rw [e] <;> rfl
      refine ⟨?_, wid_of e' (by omega) fun c hc => by have := wid_item ed (me c hc); omega, big_of e' fun c hc => by have := big_item ed (me c hc); omega, .none, .none, fun c hc => .inr (.inr ?_)⟩
      · rcases e' with e | e <;> rw [e]
        · exact (okd_list o).mono (by omega) (by omega)
        · exact (okd_tuple o).mono (by omega) (by omega)
      · rw [it]
        rw [i'] at hc
        exact me c hc
    have lL : ∀ n : Nat, n ≤ 300100 → n ≤ sizeLine := fun n h => Nat.le_trans h (by decide)
    have seq : ∀ {H' : Hp} {t : Addr} {ys : List V}, SqL K H' t ys → SqL K H' t ys ∨ SqT K H' t ys := fun h => .inl h
    -- list(..)
    refine ⟨_, rfl, _, rfl, a, xs, rfl, seq_sq ha, fun l1 hl1 => ?_⟩
    have s12 := same_upd (o := .lst xs) hl1
    have e12 : upd H11 l1 (.lst xs) l1 = some (.lst xs) := upd_same
    have T12 : Tr bad (upd H11 l1 (.lst xs)) (.list ds) (.ref l1) := tr_lst (old_new (old' f11) hl1) e12 (tx.same s12)
    have ha12 : upd H11 l1 (.lst xs) a = some (.lst xs) ∨ TupX (upd H11 l1 (.lst xs)) a xs := ha.imp (s12 _ _) fun h => h.same s12
    have f12 := f11.trans s12
    have tx12 := tx.same s12
    generalize upd H11 l1 (.lst xs) = H12 at s12 e12 T12 ha12 f12 tx12 ⊢
    -- tuple(..)
    refine ⟨fun v H' => Same H12 H' ∧ ∃ d', Tr bad H' d' v ∧ OddOk (mm + 1) w d d', ?_, ?_⟩
    · rcases ha12 with h | h
      · exact ⟨_, rfl, a, xs, rfl, .inl ⟨.inl (.inl h), fun t H' s n e => ⟨s, .tuple ds, tr_tup (old_new (old' f12) n) (.inr e) (tx12.same s), fin ds (fun _ h => h) (by omega) (by omega) _ (.inr rfl)⟩⟩⟩
      · exact ⟨_, rfl, a, xs, rfl, .inr ⟨h.sq, Same.refl _, .tuple ds, tr_tup na h tx12, fin ds (fun _ h => h) (by omega) (by omega) _ (.inr rfl)⟩⟩
    rintro v2 H13 ⟨s13, d2, T13, k13⟩
    have f13 := f12.trans s13
    have ha13 : H13 a = some (.lst xs) ∨ TupX H13 a xs := ha12.imp (s13 _ _) fun h => h.same s13
    have tx13 := tx12.same s13
    -- twice
    refine ⟨fun v H' => Same H13 H' ∧ ∃ d', Tr bad H' d' v ∧ OddOk (mm + 1) w d d', ?_, ?_⟩
    · have mem2 : ∀ c ∈ ds ++ ds, c ∈ ds := fun c hc => (List.mem_append.mp hc).elim id id
      have wg2 : PyData.weightAll (ds ++ ds) ≤ 2 * w := by rw [weight_app]; omega
      have lg2 : (ds ++ ds).length ≤ 2 * ds.length := by rw [List.length_append]; omega
      rcases ha13 with h | h
      · refine ⟨_, rfl, _, rfl, a, xs, rfl, rfl, lL _ (by omega), .inl ⟨h, fun p hp => ?_⟩⟩
        have s := same_upd (o := .lst (xs ++ xs)) hp
        exact ⟨s, .list (ds ++ ds), tr_lst (old_new (old' f13) hp) upd_same ((tx13.same s).app (tx13.same s)), fin _ mem2 wg2 lg2 _ (.inl rfl)⟩
      · refine ⟨_, rfl, _, rfl, a, xs, rfl, rfl, lL _ (by omega), .inr ⟨h, fun t H' s e n => ?_⟩⟩
        exact ⟨s, .tuple (ds ++ ds), tr_tup (n.elim (fun z => z ▸ na) fun n => old_new (old' f13) n) e ((tx13.same s).app (tx13.same s)), fin _ mem2 wg2 lg2 _ (.inr rfl)⟩
    rintro v3 H14 ⟨s14, d3, T14, k14⟩
    have f14 := f13.trans s14
    have ha14 : H14 a = some (.lst xs) ∨ TupX H14 a xs := ha13.imp (s14 _ _) fun h => h.same s14
    have tx14 := tx13.same s14
    -- turned round
    refine ⟨fun v H' => Same H14 H' ∧ ∃ d', Tr bad H' d' v ∧ OddOk (mm + 1) w d d', ?_, ?_⟩
    · have memr : ∀ c ∈ ds.reverse, c ∈ ds := fun c hc => List.mem_reverse.mp hc
      have wgr : PyData.weightAll ds.reverse ≤ 2 * w := by rw [weight_rev]; omega
      have lgr : ds.reverse.length ≤ 2 * ds.length := by rw [List.length_reverse]; omega
      rcases ha14 with h | h
      · refine ⟨_, rfl, a, xs, rfl, .inl ⟨.inl (.inl h), fun p hp => ?_⟩⟩
        have s := same_upd (o := .lst xs.reverse) hp
        exact ⟨s, .list ds.reverse, tr_lst (old_new (old' f14) hp) upd_same (tx14.same s).rev, fin _ memr wgr lgr _ (.inl rfl)⟩
      · refine ⟨_, rfl, a, xs, rfl, .inr ⟨h.sq, fun p H' s n e => ?_⟩⟩
        exact ⟨s, .tuple ds.reverse, tr_tup (old_new (old' f14) n) (.inr e) (tx14.same s).rev, fin _ memr wgr lgr _ (.inr rfl)⟩
    rintro v4 H15 ⟨s15, d4, T15, k15⟩
    have f15 := f14.trans s15
    have ha15 : H15 a = some (.lst xs) ∨ TupX H15 a xs := ha14.imp (s15 _ _) fun h => h.same s15
    have tx15 := tx14.same s15
    -- without the first
    refine ⟨fun v H' => Same H15 H' ∧ ∃ d', Tr bad H' d' v ∧ OddOk (mm + 1) w d d', ?_, ?_⟩
    · have memc : ∀ c ∈ ds.drop 1, c ∈ ds := fun c hc => List.mem_of_mem_drop hc
      have wgc : PyData.weightAll (ds.drop 1) ≤ 2 * w := by have := weight_cut ds 1; omega
      have lgc : (ds.drop 1).length ≤ 2 * ds.length := by rw [List.length_drop]; omega
      have ec : cutV xs (some 1) none = xs.drop 1 := cutL_from xs 1
      rcases ha15 with h | h
      · refine ⟨_, rfl, _, rfl, a, xs, rfl, .inl ⟨h, fun p hp => ?_⟩⟩
        rw [ec]
        have s := same_upd (o := .lst (xs.drop 1)) hp
        exact ⟨s, .list (ds.drop 1), tr_lst (old_new (old' f15) hp) upd_same ((tx15.same s).drop 1), fin _ memc wgc lgc _ (.inl rfl)⟩
      · refine ⟨_, rfl, _, rfl, a, xs, rfl, .inr ⟨h, fun t H' s e n => ?_⟩⟩
        rw [ec] at e
        exact ⟨s, .tuple (ds.drop 1), tr_tup (n.elim (fun z => z ▸ na) fun n => old_new (old' f15) n) e ((tx15.same s).drop 1), fin _ memc wgc lgc _ (.inr rfl)⟩
    rintro v5 H16 ⟨s16, d5, T16, k16⟩
    have f16 := f15.trans s16
    have ha16 : H16 a = some (.lst xs) ∨ TupX H16 a xs := ha15.imp (s16 _ _) fun h => h.same s16
    have tx16 := tx15.same s16
    -- without the last
    refine ⟨fun v H' => Same H16 H' ∧ ∃ d', Tr bad H' d' v ∧ OddOk (mm + 1) w d d', ?_, ?_⟩
    · have memc : ∀ c ∈ ds.take (ds.length - 1), c ∈ ds := fun c hc => List.mem_of_mem_take hc
      have wgc : PyData.weightAll (ds.take (ds.length - 1)) ≤ 2 * w := by have := weight_cut ds (ds.length - 1); omega
      have lgc : (ds.take (ds.length - 1)).length ≤ 2 * ds.length := by rw [List.length_take]; omega
      have ec : cutV xs none (some (-1)) = xs.take (ds.length - 1) := by
        show cutL xs none (some (-1)) = _
        rw [cutL_butX, List.dropLast_eq_take, lxs]
      rcases ha16 with h | h
      · refine ⟨_, rfl, 1, rfl, _, rfl, a, xs, rfl, .inl ⟨h, fun p hp => ?_⟩⟩
        rw [ec]
        have s := same_upd (o := .lst (xs.take (ds.length - 1))) hp
        exact ⟨s, .list (ds.take (ds.length - 1)), tr_lst (old_new (old' f16) hp) upd_same ((tx16.same s).take _), fin _ memc wgc lgc _ (.inl rfl)⟩
      · refine ⟨_, rfl, 1, rfl, _, rfl, a, xs, rfl, .inr ⟨h, fun t H' s e n => ?_⟩⟩
        rw [ec] at e
        exact ⟨s, .tuple (ds.take (ds.length - 1)), tr_tup (n.elim (fun z => z ▸ na) fun n => old_new (old' f16) n) e ((tx16.same s).take _), fin _ memc wgc lgc _ (.inr rfl)⟩
    rintro v6 H17 ⟨s17, d6, T17, k17⟩
    have f17 := f16.trans s17
    refine ⟨(by show 6 ≤ sizeLine; decide), fun l hl => ?_⟩
    have s18 := same_upd (o := .lst [.ref l1, v2, v3, v4, v5, v6]) hl
    have e18 : upd H17 l (.lst [.ref l1, v2, v3, v4, v5, v6]) l = some (.lst [.ref l1, v2, v3, v4, v5, v6]) := upd_same
    generalize upd H17 l (.lst [.ref l1, v2, v3, v4, v5, v6]) = H18 at s18 e18 ⊢
    have g17 := s18
    have g16 := s17.trans g17
    have g15 := s16.trans g16
    have g14 := s15.trans g15
    have g13 := s14.trans g14
    have g12 := s13.trans g13
    have g11 := s12.trans g12
    have lX := T11.len
    refine ⟨S, l, _, _, rfl, rfl, g11 _ _ e11, e18, small_le (by show X.length + 6 ≤ _; omega), fun L2 hL2 => ?_⟩
    have s19 := same_upd (o := .lst (X ++ [.ref l1, v2, v3, v4, v5, v6])) hL2
    refine ⟨L2, D ++ [.list ds, d2, d3, d4, d5, d6], _, rfl, (f11.trans g11).trans s19, upd_same, ((T11.same g11).app (.cons (T12.same g12) (.cons (T13.same g13) (.cons (T14.same g14) (.cons (T15.same g15) (.cons (T16.same g16) (.cons (T17.same g17) .nil))))))).same s19, fun d' hd => ?_, by rw [List.length_append]; omega, by rw [List.length_append]; show D.length + 6 ≤ 27; omega, (hb.same (f11.trans g11)).ne_none hL2⟩
    rcases List.mem_append.mp hd with z | z
    · exact TH d' z
    simp only [List.mem_cons, List.not_mem_nil, or_false] at z
    rcases z with z | z | z | z | z | z <;> subst z
    · exact fin ds (fun _ h => h) (by omega) (by omega) _ (.inl rfl)
    · exact k13
    · exact k14
    · exact k15
    · exact k16
    · exact k17
  rintro σ' H20 ⟨S, D, X, rfl, f20, e20, T20, TH, lD16, lD27, nS⟩
  -- a number
  refine ⟨fun σ' H' => ∃ (S : Addr) (D : List PyData) (X : List V), σ' = [some (.ref b), some v, some (.ref S)] ∧ Same H H' ∧ H' S = some (.lst X) ∧ TrAll bad H' D X ∧ (∀ d' ∈ D, OddOk m w d d') ∧ 16 ≤ D.length ∧ D.length ≤ 31 ∧ S ≠ b, ?_, ?_⟩
  · have tr20 := tr.same f20
    refine ⟨_, rfl, _, _, _, _, _, rfl, .ty _, tr20.ty, isi_I d, _, rfl, ite2 (fun c => ?_) (fun c => ?_)⟩
    rotate_left
    · exact ⟨S, D, X, rfl, f20, e20, T20, TH, by omega, by omega, nS⟩
    obtain ⟨k, hk, kp1, kp2, shd, strv⟩ : ∃ k : Int, numV v = some k ∧ (k + 1).natAbs ≤ bigD d + 2 ∧ (k - 1).natAbs ≤ bigD d + 2 ∧ SeqAt.shaped d = true ∧ ((∃ i : Int, v = .int i ∧ i.natAbs ≤ 50) ∨ ∃ c : Bool, v = .bl c) := by
      cases d with
      | int i =>
        simp only [Tr] at tr
        subst tr
        have hi : i.natAbs ≤ 40 := big
        exact ⟨i, rfl, by simp only [bigD]; omega, by simp only [bigD]; omega, shaped_of (n := 0) (w := 40) (okd_int (Nat.lt_of_le_of_lt hi (by decide)) (Nat.le_refl _)) (Nat.zero_le _), .inl ⟨i, rfl, by omega⟩⟩
      | bool c' =>
        simp only [Tr] at tr
        subst tr
        exact ⟨b2i c', rfl, by cases c' <;> decide, by cases c' <;> decide, shaped_of (n := 0) (w := 40) (okd_bool _) (Nat.zero_le _), .inr ⟨c', rfl⟩⟩
      | _ => cases c
    refine ⟨_, rfl, _, rfl, k, 1, hk, rfl, _, rfl, k, 1, hk, rfl, fun v' H' => H' = H20 ∧ ∃ z : Str, v' = .str z ∧ Good z ∧ z.length ≤ 8, ?_, ?_⟩
    · rcases strv with ⟨i, rfl, hi⟩ | ⟨c', rfl⟩
      · obtain ⟨g1, g2⟩ := int_good i hi
        exact ⟨_, rfl, _, rfl, .inl ⟨i, rfl, Nat.lt_of_le_of_lt (Nat.log2_le_self _) (by omega), rfl, _, rfl, g1, g2⟩⟩
      · refine ⟨_, rfl, _, rfl, .inr ⟨c', rfl, rfl, _, rfl, ?_, ?_⟩⟩
        · cases c' <;> (show PyData.strOk _ = true; decide +kernel)
        · cases c' <;> decide +kernel
    rintro v' H' ⟨rfl, z, rfl, gz, lz⟩
    refine ⟨_, rfl, d, .int 1, tr20.dp, .int 1, shd, shaped_of (n := 0) (w := 40) (okd_int (by decide) (Nat.le_refl _)) (Nat.zero_le _), ?_⟩
    generalize PyData.eqv d (.int 1) = eb
    refine ⟨(by show 4 ≤ sizeLine; decide), fun l hl => ?_⟩
    have s21 := same_upd (o := .lst [.int (k + 1), .int (k - 1), .str z, .bl eb]) hl
    have e21 : upd H' l (.lst [.int (k + 1), .int (k - 1), .str z, .bl eb]) l = some (.lst [.int (k + 1), .int (k - 1), .str z, .bl eb]) := upd_same
    generalize upd H' l (.lst [.int (k + 1), .int (k - 1), .str z, .bl eb]) = H21 at s21 e21 ⊢
    have lX := T20.len
    refine ⟨S, l, _, _, rfl, rfl, s21 _ _ e20, e21, small_le (by show X.length + 4 ≤ _; omega), fun L2 hL2 => ?_⟩
    have s22 := same_upd (o := .lst (X ++ [.int (k + 1), .int (k - 1), .str z, .bl eb])) hL2
    have s2022 := s21.trans s22
    have nm : ∀ j : Int, j.natAbs ≤ bigD d + 2 → OddOk m w d (.int j) := fun j hj => ⟨(okd_int (n := 0) (w := 60) (Nat.lt_of_le_of_lt (show j.natAbs ≤ 42 by omega) (by decide)) (by decide)).mono (Nat.zero_le _) (by omega), by simp only [widD]; omega, hj, .none, .none, fun _ h => nomatch h⟩
    refine ⟨L2, D ++ [.int (k + 1), .int (k - 1), .str z, .bool eb], _, rfl, f20.trans s2022, upd_same, (T20.same s2022).app (.cons (by simp only [Tr]) (.cons (by simp only [Tr]) (.cons (tr_str _) (.cons (by simp only [Tr]) .nil)))), fun d' hd => ?_, by rw [List.length_append]; omega, by rw [List.length_append]; show D.length + 4 ≤ 31; omega, (hb.same (f20.trans s21)).ne_none hL2⟩
    rcases List.mem_append.mp hd with y | y
    · exact TH d' y
    simp only [List.mem_cons, List.not_mem_nil, or_false] at y
    rcases y with y | y | y | y <;> subst y
    · exact nm _ kp1
    · exact nm _ kp2
    · exact ⟨(okd_str (n := 0) (w := 60) gz (by omega)).mono (Nat.zero_le _) (by omega), by simp only [widD]; omega, by simp only [bigD]; omega, .none, .none, fun _ h => nomatch h⟩
    · exact ⟨okd_bool _, by simp only [widD]; omega, by simp only [bigD]; omega, .none, .none, fun _ h => nomatch h⟩
  rintro σ' H30 ⟨S, D, X, rfl, f30, e30, T30, TH, lD16, lD31, nS⟩
  have B30 := hb.same f30
  have lX := T30.len
  refine ⟨_, rfl, _, rfl, _, rfl, S, _, rfl, .inl (.inl (.inl e30)), b, _, rfl, B30, by omega, by omega, fun vi H31 o31 b31 v0 v1 => ?_⟩
  obtain ⟨k, rfl⟩ := Int.eq_ofNat_of_zero_le v0
  obtain ⟨e, x, he, hx, tx⟩ := T30.get (i := k) (by omega)
  refine ⟨S, _, _, _, rfl, rfl, .inl (.inl (o31 _ _ nS e30)), atI_nat hx, ?_⟩
  exact q e x H31 ((Oth.of f30).trans o31) b31 (tx.oth o31 bb) (TH e (List.mem_of_getElem? he))
/-! ### _law_bent -/
abbrev sBent20 : Stmt := topS 48
abbrev nBentO : List Str := ["_law_box_here", "_law_matter", "_law_spot", "_law_way", "_law_some", "_law_there"]
abbrev pBentO : List Str := ["_law_box_here", "_law_matter"]
theorem scBentO : FnScope nBentO pBentO (defScope sBent20) := ⟨rfl, rfl, rfl, by decide +kernel, rfl, by decide +kernel, by decide +kernel⟩
-- slots: 0:box_here 1:matter 2:spot 3:way 4:some 5:there
theorem ok_bentOStep {f : Addr} {fd : FuncData} {n : Nat} (B : Blt mg) (CB : Cal P w K mg base (n + 2) "_law_bent" ["_law_box_here", "_law_matter"] (spBentO n)) (COdd : Cal P w K mg base 2 "_law_odd" ["_law_box_here", "_law_matter"] spOddO) (CT : Cal P w K mg base 1 "_law_take" ["_law_box_here", "_law_many"] spTake) (F : Fun K "_law_bent" "_law_bent" sBent20 f fd) : FnOk P w K mg base CX0 (n + 3) f fd pBentO (spBentO (n + 1)) := by
  refine fok F scBentO (fun vs H Q E h => ?_) (fun cdv A outer s H vs Q E hr h => ?_)
  · obtain ⟨b, bad, d, v, m, w, rfl, _⟩ := h
    rfl
  have hu := hu_of hr
  refine ⟨_, pss_cons (ps_if (pt_mid <| PW.pt (pw_or (pt_not (pt_val (pe_callB call_isiT (by rfl) B.isinstance (by decide +kernel) (pa_cons (pv 1) (pa_cons (pe_tup (pa_cons (pe_bltn (v := .ty "list") (by rfl) B.list (by decide +kernel) rfl) (pa_cons (pe_bltn (v := .ty "tuple") (by rfl) B.tuple (by decide +kernel) rfl) pa_nil))) pa_nil))))) (pw_or (pt_cmpR op_eq (pe_callB call_len_seq (by rfl) B.len PySem.boot_len (pa_cons (pv 1) pa_nil)) pe_int (nomark _)) (pw_or1 (pt_cmpR op_eq (pe_cal CT hr (pa_cons (pv 0) (pa_cons pe_int pa_nil))) pe_int (nomark _))))))
      (pss_one (ps_ret (pe_cal COdd hr (pa_cons (pv 0) (pa_cons (pv 1) pa_nil)))))
      pss_nil)
    (pss_cons (ps_par3 (i := 2) (j := 3) (l := 4) (by rfl) scBentO.nd rfl rfl rfl (by decide) (by decide) (by decide) rfl rfl rfl (pa_cons (pe_cal CT hr (pa_cons (pv 0) (pa_cons (pe_callB call_len_seq (by rfl) B.len PySem.boot_len (pa_cons (pv 1) pa_nil)) pa_nil))) (pa_cons (pe_cal CT hr (pa_cons (pv 0) (pa_cons pe_int pa_nil))) (pa_cons (pe_callTy call_listN (by rfl) B.list (by decide +kernel) (pa_cons (pv 1) pa_nil)) pa_nil))) (by rfl))
    (pss_cons (ps_mid <| ps_if (pt_cmpR op_lt (pv 3) pe_int (nomark _))
      (pss_one (ps_asg (pe_cal CB hr (pa_cons (pv 0) (pa_cons (pe_ix ix_list (pv 4) (pv 2) (fun _ _ => rfl)) pa_nil))) (pg_sub (pv 4) (pv 2) set_list)))
      (pss_one (ps_if (pt_cmpR op_eq (pv 3) pe_int (nomark _))
          (pss_one (ps_expr (pe_bm PySem.F.plainAttrs_list PySem.F.slot_list_pop PySem.F.type_list_pop mt_popAt (pv 4) (pa_cons (pv 2) pa_nil))))
          (pss_one (ps_if (pt_cmpR op_eq (pv 3) pe_int (nomark _))
              (pss_one (ps_expr (pe_bm PySem.F.plainAttrs_list PySem.F.slot_list_insert PySem.F.type_list_insert mt_insert (pv 4) (pa_cons (pe_cal CT hr (pa_cons (pv 0) (pa_cons (pe_callB call_len_seq (by rfl) B.len PySem.boot_len (pa_cons (pv 4) pa_nil)) pa_nil))) (pa_cons (pe_ix ix_list (pv 4) (pv 2) (fun _ _ => rfl)) pa_nil)))))
              (pss_one (ps_if (pt_cmpR op_eq (pv 3) pe_int (nomark _))
                  (pss_cons (ps_set (i := 5) scBentO.nd rfl (.inl rfl) (pe_cal CT hr (pa_cons (pv 0) (pa_cons (pe_callB call_len_seq (by rfl) B.len PySem.boot_len (pa_cons (pv 4) pa_nil)) pa_nil))))
                    (pss_one (ps_asg (pe_tup (pa_cons (pe_ix ix_list (pv 4) (pv 5) (fun _ _ => rfl)) (pa_cons (pe_ix ix_list (pv 4) (pv 2) (fun _ _ => rfl)) pa_nil))) (pg_tup rfl (pgs_cons (pg_sub (pv 4) (pv 2) set_list) (pgs_cons (pg_sub (pv 4) (pv 5) set_list) pgs_nil))))))
                  (pss_one (ps_ret (pe_ifExp (pt_val (pe_callB call_isi (by rfl) B.isinstance (by decide +kernel) (pa_cons (pv 1) (pa_cons (pe_bltn (v := .ty "list") (by rfl) B.list (by decide +kernel) rfl) pa_nil)))) (pe_callTy call_tupleF (by rfl) B.tuple (by decide +kernel) (pa_cons (pv 4) pa_nil)) (pv 4)))))))))))
    (pss_one (ps_ret (pe_ifExp (pt_val (pe_callB call_isi (by rfl) B.isinstance (by decide +kernel) (pa_cons (pv 1) (pa_cons (pe_bltn (v := .ty "list") (by rfl) B.list (by decide +kernel) rfl) pa_nil)))) (pv 4) (pe_callTy call_tupleF (by rfl) B.tuple (by decide +kernel) (pa_cons (pv 4) pa_nil))))))), ?_⟩
  obtain ⟨b, bad, d, v, m, w, rfl, hb, bb, old, tr, dn, ok, wl, big, q⟩ := h
  refine ⟨fun c H' => Oth b H H' ∧ IsBox H' b ∧ (c = false → (isL d || isT d) = true ∧ ∀ ds, (d = .list ds ∨ d = .tuple ds) → 0 < ds.length), ?_, ?_⟩
  · refine ⟨_, rfl, (by show 2 ≤ sizeLine; decide), fun tp htp => ?_⟩
    have s2 := same_upd (o := .tup [.ty "list", .ty "tuple"]) htp
    have tr2 := tr.same s2
    refine ⟨_, tp, _, _, _, _, rfl, upd_same, .cons (.ty _) (.cons (.ty _) .nil), tr2.ty, isi_LT d, _, rfl, ?_⟩
    cases es : isL d || isT d with
    | false => exact ⟨Oth.of s2, hb.same s2, fun z => by cases z⟩
    | true =>
      obtain ⟨ds, a, xs, ed, rfl, na, ha, tx⟩ := Tr.items es tr2
      refine ⟨_, rfl, a, xs, rfl, seq_sq ha, rfl, _, rfl, ite2 (fun c => ⟨Oth.of s2, hb.same s2, fun z => by cases z⟩) (fun c => ?_)⟩
      refine ⟨_, rfl, b, _, rfl, hb.same s2, by decide, by decide, fun v1 H3 o3 b3 v10 v11 => ?_⟩
      refine ⟨rfl, _, rfl, (Oth.of s2).trans o3, b3, fun _ => ⟨rfl, fun ds' e' => ?_⟩⟩
      have : ds' = ds := by
        rcases ed with e | e <;> rcases e' with e2 | e2 <;> rw [e] at e2 <;> cases e2 <;> rfl
      rw [this, ← tx.len]
      exact Nat.pos_of_ne_zero fun z => c (decide_eq_true (by rw [z]; rfl))
  rintro c H2 ⟨o2, b2, hc⟩
  have tr2 := tr.oth o2 bb
  have old2 := old_oth old o2 b2
  cases c with
  | true => exact ⟨_, rfl, _, rfl, b, bad, d, v, m, w, rfl, b2, bb, old2, tr2, ok, wl, big, fun d' v' H' o b' t k => q d' v' H' (o2.trans o) b' t k⟩
  | false =>
    obtain ⟨es, ne⟩ := hc rfl
    obtain ⟨ds, a, xs, ed, rfl, na, ha, tx⟩ := Tr.items es tr2
    have lds := ne ds ed
    obtain ⟨mm, rfl⟩ : ∃ mm, m = mm + 1 := by
      rcases ed with e | e <;> subst e
      · exact okd_deep (.inl ok)
      · exact okd_deep (.inr ok)
    have oks : OkL mm w ds := by
      rcases ed with e | e <;> subst e
      · exact okd_items (.inl ok)
      · exact okd_items (.inr ok)
    have it : itemsD d = ds := by rcases ed with e | e <;> rw [e] <;> rfl
    have lxs := tx.len
    have wlD := wid_len ed
    have ow := oks.2
    have wl9 : ds.length ≤ 100000 := Nat.le_trans (weight_len ds) (Nat.le_trans oks.2 wl)
    have sl9 : (100000 : Nat) < 1073741824 := by decide
    have fit : ∀ n : Nat, n ≤ 200100 → n < sizeLine := fun n h => Nat.lt_of_le_of_lt h (by decide)
    have keepa : ∀ {H' H'' : Hp}, Oth b H' H'' → (H' a = some (.lst xs) ∨ TupX H' a xs) → H'' a = some (.lst xs) ∨ TupX H'' a xs := fun o h => h.imp (o _ _ (fun z => na (z ▸ bb))) fun h => h.keep fun u => o _ u (fun z => na (z ▸ bb))
    refine ⟨_, rfl, _, rfl, a, xs, rfl, seq_sq ha, b, _, rfl, b2, by omega, by omega, fun vs3 H3 o3 b3 v0 v1 => ?_⟩
    refine ⟨_, rfl, b, _, rfl, b3, by decide, by decide, fun way H4' o4' b4' w0 w1 => ?_⟩
    have ha4 := keepa o4' (keepa o3 ha)
    refine ⟨_, rfl, a, xs, rfl, seq_sq ha4, fun s hs => ⟨_, _, _, rfl, ?_⟩⟩
    obtain ⟨k, rfl⟩ := Int.eq_ofNat_of_zero_le v0
    have hk : k < ds.length := by omega
    have o24 := o3.trans o4'
    have old4' := old_oth old2 o24 b4'
    have s3 := same_upd (o := .lst xs) hs
    have es4 : upd H4' s (.lst xs) s = some (.lst xs) := upd_same
    have nsb : s ≠ b := b4'.ne_none hs
    have nbs : ¬ bad s := old_new old4' hs
    have tx4 : TrAll (fun z => bad z ∨ z = s) (upd H4' s (.lst xs)) ds xs := (TrAll.put hs (tx.oth o24 bb)).same s3
    have tr4 : Tr (fun z => bad z ∨ z = s) (upd H4' s (.lst xs)) d (.ref a) := (Tr.put hs (tr2.oth o24 bb)).same s3
    have b4 := b4'.same s3
    have o04 := (o2.trans o24).trans (Oth.of s3)
    have old4 : ∀ z, (bad z ∨ z = s) → upd H4' s (.lst xs) z ≠ none := fun z h => h.elim (old_oth old o04 b4 z) fun e => by rw [e, es4]; exact nofun
    have nsH : H s = none := (o2.trans o24).free nsb hs
    generalize upd H4' s (.lst xs) = H4 at s3 es4 tx4 tr4 b4 o04 old4 ⊢
    obtain ⟨e, x, he, hx, te⟩ := tx4.get hk
    have me := List.mem_of_getElem? he
    have wm := weight_mem me
    have low : ∀ {H' : Hp} {es' : List PyData} {xs' : List V}, TrAll (fun z => bad z ∨ z = s) H' es' xs' → TrAll bad H' es' xs' := fun h => TrAll.mono (fun _ h => .inl h) h
    have fine : ∀ (c1 : PyData) (ds' : List PyData), (∀ c ∈ ds', c = c1 ∨ c ∈ ds) → (Okd (mm + 1) (3 * w + 60) c1 ∧ widD c1 ≤ 2 * widD d + 2 ∧ bigD c1 ≤ bigD d + 2) → PyData.weightAll ds' ≤ 3 * w + 60 → ds'.length ≤ 2 * ds.length + 2 → ∀ d', (d' = .list ds' ∨ d' = .tuple ds') → OddOk (mm + 1) w d d' := fun c1 ds' mem h1 we le d' e' => by
      have i' : itemsD d' = ds' := by rcases e' with e | e <;> rw [e] <;> rfl
      have o : OkL (mm + 1) (3 * w + 60) ds' := ⟨fun c hc => by
        rcases mem c hc with z | z
        · rw [z]; exact h1.1
        · exact (oks.1 c z).mono (by omega) (by omega), we⟩
      refine ⟨?_, wid_of e' (by omega) fun c hc => ?_, big_of e' fun c hc => ?_, c1, c1, fun c hc => ?_⟩
      · rcases e' with e | e <;> rw [e]
        · exact okd_list o
        · exact okd_tuple o
      · rcases mem c hc with z | z
        · rw [z]; exact h1.2.1
        · have := wid_item ed z; omega
      · rcases mem c hc with z | z
        · rw [z]; exact h1.2.2
        · have := big_item ed z; omega
      · rw [i'] at hc
        rw [it]
        rcases mem c hc with z | z
        · exact .inl z
        · exact .inr (.inr z)
    have own : ∀ {c : PyData}, c ∈ ds → Okd (mm + 1) (3 * w + 60) c ∧ widD c ≤ 2 * widD d + 2 ∧ bigD c ≤ bigD d + 2 := fun {c} hc => by
      have h1 := wid_item ed hc
      have h2 := big_item ed hc
      exact ⟨(oks.1 c hc).mono (by omega) (by omega), by omega, by omega⟩
    -- the ways
    refine ⟨fun σ' H' => ∃ (xs' : List V) (ds' : List PyData) (y5 : Option V), σ' = [some (.ref b), some (.ref a), some (.int k), some (.int way), some (.ref s), y5] ∧ Oth b H H' ∧ IsBox H' b ∧ H' s = some (.lst xs') ∧ TrAll bad H' ds' xs' ∧ Tr bad H' d (.ref a) ∧ ∀ d', (d' = .list ds' ∨ d' = .tuple ds') → OddOk (mm + 1) w d d', ?_, ?_⟩
    · have fin : ∀ (H5 : Hp) (ys xs' : List V) (ds' : List PyData) (y5 : Option V), Oth b H4 H5 → IsBox H5 b → H5 s = some (.lst ys) → TrAll (fun z => bad z ∨ z = s) H5 ds' xs' → (∀ d', (d' = .list ds' ∨ d' = .tuple ds') → OddOk (mm + 1) w d d') → ∃ (xs1 : List V) (ds1 : List PyData) (y51 : Option V), [some (.ref b), some (.ref a), some (.int (k : Int)), some (.int way), some (.ref s), y5] = [some (.ref b), some (.ref a), some (.int (k : Int)), some (.int way), some (.ref s), y51] ∧ Oth b H (upd H5 s (.lst xs')) ∧ IsBox (upd H5 s (.lst xs')) b ∧ (upd H5 s (.lst xs')) s = some (.lst xs1) ∧ TrAll bad (upd H5 s (.lst xs')) ds1 xs1 ∧ Tr bad (upd H5 s (.lst xs')) d (.ref a) ∧ ∀ d', (d' = .list ds1 ∨ d' = .tuple ds1) → OddOk (mm + 1) w d d' := fun H5 ys xs' ds' y5 o5 b5 es5 t5 k5 => by
        refine ⟨xs', ds', y5, rfl, fun c o nc e => ?_, ?_, upd_same, low (t5.keep fun c u nc e => (upd_ne (fun z => nc (.inr z))).trans e), Tr.mono (fun _ h => .inl h) ((tr4.oth o5 (.inl bb)).keep fun c u nc e => (upd_ne (fun z => nc (.inr z))).trans e), k5⟩
        · rw [upd_ne (ne_of_none e nsH)]
          exact (o04.trans o5) _ _ nc e
        · obtain ⟨i1, i2, i3, e⟩ := b5
          exact ⟨i1, i2, i3, (upd_ne (Ne.symm nsb)).trans e⟩
      refine ⟨_, rfl, way, 4, rfl, rfl, _, rfl, ite2 (fun c => ?_) (fun c => ?_)⟩
      · refine ⟨_, rfl, _, rfl, _, rfl, s, xs, _, x, rfl, rfl, .inl (.inl es4), atI_nat hx, b, (fun z => bad z ∨ z = s), e, x, mm, e.weight, rfl, b4, .inl bb, old4, te, ?_, (oks.1 e me).self, by omega, Nat.le_trans (big_item ed me) big, fun d' v' H5 o5 b5 t5 k5 => ?_⟩
        · have := depth_item ed me
          omega
        have es5 := o5 _ _ nsb es4
        refine ⟨_, rfl, _, rfl, s, xs, _, k, rfl, rfl, es5, ixN_k (by omega), ?_⟩
        have h1 := weight_set_at ds k d' e he
        have h2 := k5.ok.fit.wt
        refine fin H5 xs _ (ds.set k d') _ o5 b5 es5 ((tx4.oth o5 (.inl bb)).set k t5) (fine d' _ (fun c hc => ?_) ⟨k5.ok.mono (Nat.le_refl _) (by omega), ?_, ?_⟩ (by omega) (by rw [List.length_set]; omega))
        · rcases List.mem_or_eq_of_mem_set hc with h1 | h1
          · exact .inr h1
          · exact .inl h1
        · have := k5.wid
          have := wid_item ed me
          omega
        · have := k5.big
          have := big_item ed me
          omega
      refine ⟨_, rfl, rfl, _, rfl, ite2 (fun c => ?_) (fun c => ?_)⟩
      · refine ⟨_, rfl, .inl ⟨rfl, _, .inl (.inl es4)⟩, _, rfl, s, xs, _, k, x, rfl, rfl, es4, by omega, by omega, ?_, hx, ?_⟩
        · exact PyProof.Rows.seqIndex_at (by omega) (by omega)
        refine fin H4 xs _ (ds.eraseIdx k) _ (Oth.refl _ _) b4 es4 ?_ (fine e _ (fun c hc => .inr (List.mem_of_mem_eraseIdx hc)) (own me) ?_ (by have := List.length_eraseIdx_le ds k; omega))
        · rw [List.eraseIdx_eq_take_drop_succ, List.eraseIdx_eq_take_drop_succ]
          exact (tx4.take k).app (tx4.drop (k + 1))
        · rw [List.eraseIdx_eq_take_drop_succ, weight_app]
          have h1 := weight_cut ds k
          have h2 := weight_cut (ds.drop k) 1
          rw [List.drop_drop] at h2
          omega
      refine ⟨_, rfl, rfl, _, rfl, ite2 (fun c => ?_) (fun c => ?_)⟩
      · refine ⟨_, rfl, .inl ⟨rfl, _, .inl (.inl es4)⟩, _, rfl, _, rfl, s, xs, rfl, .inl (.inl (.inl es4)), b, _, rfl, b4, by omega, by omega, fun v5 H5 o5 b5 v50 v51 => ?_⟩
        obtain ⟨k5, rfl⟩ := Int.eq_ofNat_of_zero_le v50
        have es5 := o5 _ _ nsb es4
        have tx5 := tx4.oth o5 (.inl bb)
        refine ⟨_, rfl, _, rfl, s, xs, _, x, rfl, rfl, .inl (.inl es5), atI_nat hx, s, xs, _, x, rfl, rfl, es5, fit _ (by omega), by omega, by omega, ?_⟩
        rw [Int.toNat_natCast]
        refine fin H5 xs _ (ds.take k5 ++ [e] ++ ds.drop k5) _ o5 b5 es5 (((tx5.take k5).app (.cons (te.oth o5 (.inl bb)) .nil)).app (tx5.drop k5)) (fine e _ (fun c hc => ?_) (own me) ?_ ?_)
        · rcases List.mem_append.mp hc with h1 | h1
          · rcases List.mem_append.mp h1 with h1 | h1
            · exact .inr (List.mem_of_mem_take h1)
            · exact .inl (List.mem_singleton.mp h1)
          · exact .inr (List.mem_of_mem_drop h1)
        · rw [weight_app, weight_app]
          have h1 := weight_cut ds k5
          have h4 : PyData.weightAll [e] = e.weight + 1 := by simp only [PyData.weightAll]
          omega
        · rw [List.length_append, List.length_append, List.length_take, List.length_drop, List.length_singleton]
          omega
      refine ⟨_, rfl, rfl, _, rfl, ite2 (fun c => ?_) (fun c => ?_)⟩
      · refine ⟨_, rfl, _, rfl, s, xs, rfl, .inl (.inl (.inl es4)), b, _, rfl, b4, by omega, by omega, fun v5 H5 o5 b5 v50 v51 => ?_⟩
        obtain ⟨k5, rfl⟩ := Int.eq_ofNat_of_zero_le v50
        have es5 := o5 _ _ nsb es4
        have tx5 := tx4.oth o5 (.inl bb)
        obtain ⟨e6, x6, he6, hx6, te6⟩ := tx5.get (i := k5) (by omega)
        have m6 := List.mem_of_getElem? he6
        refine ⟨_, rfl, _, rfl, s, xs, _, x6, rfl, rfl, .inl (.inl es5), atI_nat hx6, _, rfl, _, rfl, s, xs, _, x, rfl, rfl, .inl (.inl es5), atI_nat hx, (by show 2 ≤ sizeLine; decide), fun T hT => ?_⟩
        have s6 := same_upd (o := .tup [x6, x]) hT
        have es6 := s6 _ _ es5
        have tx6 := tx5.same s6
        have te6' := te6.same s6
        have te' := (te.oth o5 (.inl bb)).same s6
        have o46 := o5.trans (Oth.of s6)
        have b6 := b5.same s6
        have eT : upd H5 T (.tup [x6, x]) T = some (.tup [x6, x]) := upd_same
        generalize upd H5 T (.tup [x6, x]) = H6 at es6 tx6 te6' te' o46 b6 eT ⊢
        refine ⟨T, _, rfl, .inl (.inl eT), rfl, _, _, rfl, _, rfl, _, rfl, s, xs, _, k, rfl, rfl, es6, ixN_k (by omega), _, _, rfl, _, rfl, _, rfl, s, xs.set k x6, _, k5, rfl, rfl, upd_same, ixN_k (by rw [List.length_set]; omega), rfl, ?_⟩
        have eu : upd (upd H6 s (.lst (xs.set k x6))) s (.lst ((xs.set k x6).set k5 x)) = upd H6 s (.lst ((xs.set k x6).set k5 x)) := by
          funext c
          by_cases h : c = s
          · rw [h, upd_same, upd_same]
          · rw [upd_ne h, upd_ne h, upd_ne h]
        rw [eu]
        have h1 := weight_set_at ds k e6 e he
        have hg : (ds.set k e6)[k5]? = some e6 := by
          by_cases h : k = k5
          · subst h
            rw [List.getElem?_set_self hk]
          · rw [List.getElem?_set_ne h]
            exact he6
        have h2 := weight_set_at (ds.set k e6) k5 e e6 hg
        refine fin H6 xs _ ((ds.set k e6).set k5 e) _ o46 b6 es6 ((tx6.set k te6').set k5 te') (fine e _ (fun c hc => ?_) (own me) (by omega) (by rw [List.length_set, List.length_set]; omega))
        rcases List.mem_or_eq_of_mem_set hc with h | h
        · rcases List.mem_or_eq_of_mem_set h with h | h
          · exact .inr h
          · rw [h]
            exact .inr m6
        · exact .inl h
      · refine ⟨_, rfl, _, _, _, _, _, rfl, .ty _, tr4.ty, isi_L d, _, rfl, ite2 (fun c9 => ?_) (fun c9 => ?_)⟩
        · refine ⟨_, rfl, s, _, rfl, .inl ⟨.inl (.inl es4), fun t H10 s10 n10 e10 => ?_⟩⟩
          exact q _ _ H10 (o04.trans (Oth.of s10)) (b4.same s10) (tr_tup (fun h => old_new old4 n10 (.inl h)) (.inr e10) (low (tx4.same s10))) (fine e ds (fun c hc => .inr hc) (own me) (by omega) (by omega) _ (.inr rfl))
        · exact ⟨_, rfl, q _ _ H4 o04 b4 (tr_lst nbs es4 (low tx4)) (fine e ds (fun c hc => .inr hc) (own me) (by omega) (by omega) _ (.inl rfl))⟩
    rintro σ' H9 ⟨xs', ds', y5, rfl, o9, b9, e9, t9, tr9, k9⟩
    refine ⟨_, rfl, _, _, _, _, _, rfl, .ty _, tr9.ty, isi_L d, _, rfl, ite2 (fun c => ?_) (fun c => ?_)⟩
    · exact ⟨_, rfl, q _ _ H9 o9 b9 (tr_lst nbs e9 t9) (k9 _ (.inl rfl))⟩
    · refine ⟨_, rfl, s, _, rfl, .inl ⟨.inl (.inl e9), fun t H10 s10 n10 e10 => ?_⟩⟩
      exact q _ _ H10 (o9.trans (Oth.of s10)) (b9.same s10) (tr_tup (old_new (old_oth old o9 b9) n10) (.inr e10) (t9.same s10)) (k9 _ (.inr rfl))
theorem ok_bentO {f : Addr} {fd : FuncData} (B : Blt mg) (COdd : Cal P w K mg base 2 "_law_odd" ["_law_box_here", "_law_matter"] spOddO) (CT : Cal P w K mg base 1 "_law_take" ["_law_box_here", "_law_many"] spTake) (F : Fun K "_law_bent" "_law_bent" sBent20 f fd) (hm : mg "_law_bent" = some (.ref f)) (hb : L2.Binds K fd ["_law_box_here", "_law_matter"] []) : ∀ n : Nat, FnOk P w K mg base CX0 (n + 2) f fd ["_law_box_here", "_law_matter"] (spBentO n)
  | 0 => by
    have no : ∀ vs H Q E, ¬ spBentO 0 vs H Q E := fun vs H Q E h => by
      obtain ⟨_, _, _, _, _, _, _, _, _, _, _, h, _⟩ := h
      exact absurd h (Nat.not_lt_zero _)
    exact ⟨fun vs H Q E h => absurd h (no vs H Q E), fun A outer s H args us vs Q E _ _ _ _ h => absurd h (no vs H Q E)⟩
  | n + 1 => ok_bentOStep B ⟨f, fd, ok_bentO B COdd CT F hm hb n, hm, F.kp, hb⟩ COdd CT F
/-! ### _law_right -/
abbrev sRight : Stmt := topS 56
abbrev nRight : List Str := ["_law_box_here", "_law_pool", "_law_pals_here", "_law_stand", "_law_steps", "_law_last", "_law_things", "_law_matter", "_law_turn", "_law_bent_here", "_law_due", "_law_told", "_law_word"]
abbrev pRight : List Str := ["_law_box_here"]
theorem scRight : FnScope nRight pRight (defScope sRight) := ⟨rfl, rfl, rfl, by decide +kernel, rfl, by decide +kernel, by decide +kernel⟩
-- slots: 0:box_here* 1:pool 2:pals_here* 3:stand* 4:steps 5:last 6:things 7:matter 8:turn 9:bent_here 10:due 11:told 12:word
theorem ok_right {f : Addr} {fd : FuncData} (B : Blt mg) (CY : Cal P w K mg base 5 "_law_any_stand" ["_law_box_here", "_law_pals_here", "_law_pool"] spAny) (CBe : Cal P w K mg base 6 "_law_bent" ["_law_box_here", "_law_matter"] (spBentO 4)) (CIsCh : Cal P w K mg base 5 "_law_is_chain" ["_law_pals_here", "_law_stand", "_law_mine", "_law_its", "_law_matter"] spChX) (CN : Cal P w K mg base 2 "_law_names" ["_law_box_here", "_law_many"] spNames) (CP : Cal P w K mg base 2 "_law_pals" ["_law_box_here", "_law_pool"] spPals) (CSa : Cal P w K mg base 2 "_law_same" ["_law_found", "_law_due"] (spSame 2)) (CSeR : Cal P w K mg base 7 "_law_seen_right" ["_law_box_here", "_law_pals_here", "_law_stand", "_law_matter"] spSeenX) (CSoC : Cal P w K mg base 4 "_law_some_chain" ["_law_box_here", "_law_pals_here", "_law_stand"] spSomeCh) (CW : Cal P w K mg base 2 "_law_strewn" ["_law_box_here", "_law_some"] spStrewn) (CT : Cal P w K mg base 1 "_law_take" ["_law_box_here", "_law_many"] spTake) (COo : Cal P w K mg base 6 "order_of" ["friends", "row"] spOrderOf) (CSc : CalR P w K mg base 4 "shows_chain" ["friends", "row", "one", "other", "thing"] ["thing", "other", "one", "row", "friends"] spShCX) (CSh : CalR P w K mg base 6 "shows_order" ["friends", "row", "thing"] ["thing", "row", "friends"] spShOX) (CSr : CalR P w K mg base 4 "shows_ring" ["friends", "row", "thing"] ["thing", "row", "friends"] spShRX) (F : Fun K "_law_right" "_law_right" sRight f fd) : FnOk P w K mg base CX0 8 f fd pRight spRight := by
  refine fok F scRight (fun vs H Q E h => ?_) (fun cdv A outer s H vs Q E hr h => ?_)
  · obtain ⟨b, rfl, _⟩ := h
    rfl
  have hu := hu_of hr
  refine ⟨_, pss_cons (ps_set (i := 1) scRight.nd rfl (.inl rfl) (pe_cal CN hr (pa_cons (pv 0) (pa_cons (pe_op op_add pe_int (pe_cal CT hr (pa_cons (pv 0) (pa_cons pe_int pa_nil)))) pa_nil))))
    (pss_cons (ps_set (i := 2) scRight.nd rfl (.inr rfl) (pe_cal CP hr (pa_cons (pv 0) (pa_cons (pv 1) pa_nil))))
    (pss_cons (ps_set (i := 3) scRight.nd rfl (.inr rfl) (pe_cal CY hr (pa_cons (pv 0) (pa_cons (pv 2) (pa_cons (pv 1) pa_nil)))))
    (pss_cons (ps_asg (pe_cal CSoC hr (pa_cons (pv 0) (pa_cons (pv 2) (pa_cons (pv 3) pa_nil)))) (pg_tup rfl (pgs_cons (pg_name (i := 4) scRight.nd rfl (.inl rfl)) (pgs_cons (pg_name (i := 5) scRight.nd rfl (.inl rfl)) pgs_nil))))
    (pss_cons (ps_set (i := 6) scRight.nd rfl (.inl rfl) (pe_lst (pa_cons (pe_ix ix_tup (pe_cal COo hr (pa_cons (pv 2) (pa_cons (pv 3) pa_nil))) pe_int (fun _ _ => rfl)) (pa_cons (pe_cal CW hr (pa_cons (pv 0) (pa_cons (pv 1) pa_nil))) (pa_cons (pv 4) (pa_cons (pe_callTy call_list_of (by rfl) B.list (by decide +kernel) (pa_cons (pv 1) pa_nil)) (pa_cons (pe_lst pa_nil) (pa_cons pe_non (pa_cons (pe_tupF pa_nil) (pa_cons (pv 3) (pa_cons (pe_lst (pa_cons (pv 3) pa_nil)) pa_nil)))))))))))
    (pss_cons (ps_for PassesOwn.never rfl (pi_list (pe_callTy call_list_of (by rfl) B.list (by decide +kernel) (pa_cons (pv 6) pa_nil))) (pg_name (i := 7) scRight.nd rfl (.inl rfl))
      (pss_one (ps_for PassesOwn.never rfl (pi_range1 (by rfl) B.range (pa_cons pe_int pa_nil)) (pg_name (i := 8) scRight.nd rfl (.inl rfl))
          (pss_cons (ps_set (i := 9) scRight.nd rfl (.inl rfl) (pe_cal CBe hr (pa_cons (pv 0) (pa_cons (pv 7) pa_nil))))
            (pss_one (ps_expr (pe_bm PySem.F.plainAttrs_list PySem.F.slot_list_append PySem.F.type_list_append mt_append (pv 6) (pa_cons (pe_ifExp (pt_cmpR op_eq (pe_cal CT hr (pa_cons (pv 0) (pa_cons pe_int pa_nil))) pe_int (nomark _)) (pe_cal CBe hr (pa_cons (pv 0) (pa_cons (pv 9) pa_nil))) (pv 9)) pa_nil))))))))
    (pss_cons (ps_if (pt_not (pt_val (pe_callB (cr_all rfl) (by rfl) B.all (by decide +kernel) (pa_cons (pe_lc (own := [("_law_matter", 7)]) (g := gName 7) (tt := tYes) (te := tCall spSeenX [] E0 (tCons (tVar 0) (tCons (tVar 2) (tCons (tVar 3) (tCons (tVar 7) tNil))))) rfl scRight.nd (pi_list (pv 6)) (blkOk_by (N := nRight) (sc := defScope sRight) (by decide +kernel)) (fun _ _ _ _ _ => pg_name (i := 7) scRight.nd rfl (Or.inl rfl)) (fun _ _ _ _ _ => pts_nil) (fun _ _ _ _ _ => pe_cal CSeR hr (pa_cons (pv 0) (pa_cons (pv 2) (pa_cons (pv 3) (pa_cons (pv 7) pa_nil)))))) pa_nil))))
      (pss_one (ps_ret pe_bl))
      pss_nil)
    (pss_cons (ps_mid <| ps_if (pt_cmpR (op_neNilD hr.units) (pv 4) (pe_lst pa_nil) (nomark _))
      (pss_cons (ps_set (i := 10) scRight.nd rfl (.inl rfl) (pe_cal CIsCh hr (pa_cons (pv 2) (pa_cons (pv 3) (pa_cons (pe_ix ix_tup (pe_ix ix_list (pv 4) pe_int (fun _ _ => rfl)) pe_int (fun _ _ => rfl)) (pa_cons (pv 5) (pa_cons (pv 4) pa_nil)))))))
        (pss_cons (ps_set (i := 11) scRight.nd rfl (.inl rfl) (pe_lst (pa_cons (pe_cal CSc.cal hr (pa_cons (pv 2) (pa_cons (pv 3) (pa_cons (pe_ix ix_tup (pe_ix ix_list (pv 4) pe_int (fun _ _ => rfl)) pe_int (fun _ _ => rfl)) (pa_cons (pv 5) (pa_cons (pv 4) pa_nil)))))) pa_nil)))
        (pss_cons (ps_expr (pe_bm PySem.F.plainAttrs_list PySem.F.slot_list_append PySem.F.type_list_append mt_append (pv 11) (pa_cons (pe_calR CSc hr (pk_cons (pv 4) (pk_cons (pv 5) (pk_cons (pe_ix ix_tup (pe_ix ix_list (pv 4) pe_int (fun _ _ => rfl)) pe_int (fun _ _ => rfl)) (pk_cons (pv 3) (pk_cons (pv 2) pk_nil)))))) pa_nil)))
        (pss_one (ps_if (pt_not (pt_val (pe_cal CSa hr (pa_cons (pv 11) (pa_cons (pe_lst (pa_cons (pv 10) (pa_cons (pv 10) pa_nil))) pa_nil)))))
          (pss_one (ps_ret pe_bl))
          pss_nil)))))
      pss_nil)
    (pss_cons (ps_asg (pe_cal COo hr (pa_cons (pv 2) (pa_cons (pv 3) pa_nil))) (pg_tup rfl (pgs_cons (pg_name (i := 12) scRight.nd rfl (.inl rfl)) (pgs_cons (pg_name (i := 7) scRight.nd rfl (.inl rfl)) pgs_nil))))
    (pss_cons (ps_set (i := 11) scRight.nd rfl (.inl rfl) (pe_lst (pa_cons (pe_calR CSh hr (pk_cons (pv 7) (pk_cons (pv 3) (pk_cons (pv 2) pk_nil)))) (pa_cons (pe_calR CSr hr (pk_cons (pv 7) (pk_cons (pv 3) (pk_cons (pv 2) pk_nil)))) pa_nil))))
    (pss_one (ps_ret (pe_cal CSa hr (pa_cons (pv 11) (pa_cons (pe_lst (pa_cons (pe_cmpR op_eq (pv 12) pe_str (nomark _)) (pa_cons (pe_cmpR op_eq (pv 12) pe_str (nomark _)) pa_nil))) pa_nil)))))))))))))), ?_⟩
  obtain ⟨b, rfl, hb, q⟩ := h
  refine ⟨_, rfl, _, rfl, b, _, rfl, hb, by decide, by decide, fun v H1 o1 b1 v0 v1 => ⟨_, _, rfl, rfl, ?_⟩⟩
  refine ⟨b, ((1 : Int) + v).toNat, ?_, b1, by omega, fun l pool H2 o2 b2 nl e2 n2 nd2 ok2 => ?_⟩
  · rw [Int.toNat_of_nonneg (by omega)]
    rfl
  have lp : pool.length ≤ 8 := by omega
  have lp0 : 0 < pool.length := by omega
  have gp : Goods pool := fun x hx => (ok2 x hx).good
  refine ⟨_, rfl, _, rfl, b, l, pool, rfl, b2, e2, nd2, by omega, fun a bs H3 o3 b3 na e3 p3 g3 c3 _ => ?_⟩
  have hpa3 : PalsAt H3 a (bs.map (·.2)) := ⟨bs, e3, p3, rfl⟩
  have hpo : PalsOk (bs.map (·.2)) := g3.ok gp
  have irr : Irr (bs.map (·.2)) := g3.irr
  have hpl : (bs.map (·.2)).length ≤ 1000 := by rw [List.length_map]; exact c3
  generalize bs.map (·.2) = ps at hpa3 hpo hpl irr
  have nlb : l ≠ b := b2.ne_strs e2
  have l3 : H3 l = some (.lst (pool.map V.str)) := o3 _ _ nlb e2
  refine ⟨_, rfl, _, rfl, _, rfl, b, a, l, ps, pool, rfl, b3, hpa3, hpo, l3, gp, nd2, by omega, fun t stand H4 o4 b4 t4 pm => ?_⟩
  have nds : stand.Nodup := pm.nodup_iff.mpr nd2
  have ls := pm.length_eq
  have nms : ∀ x ∈ stand, NameOk x := fun x hx => ok2 x (pm.subset hx)
  have gs : Goods stand := fun x hx => (nms x hx).good
  have nes : stand ≠ [] := fun z => by
    rw [z] at ls
    have : 0 = pool.length := ls
    omega
  have a4 := hpa3.oth o4 b3
  refine ⟨_, rfl, _, rfl, _, rfl, b, a, t, ps, stand, rfl, b4, a4, hpo, t4, gs, nds, by omega, nes, fun T L ts last H5 o5 b5 eT nLb eL pL cL lL mlast => ?_⟩
  refine ⟨T, _, rfl, eT.sq, rfl, _, _, rfl, _, _, rfl, rfl, ?_⟩
  have a5 := a4.oth o5 b4
  have t5 := t4.oth o5 b4
  have l5 := o5 _ _ nlb (o4 _ _ nlb l3)
  have o05 := (((o1.trans o2).trans o3).trans o4).trans o5
  -- the things
  refine ⟨_, rfl, _, rfl, a, t, ps, stand, rfl, a5.fr, hpl, irr, .inl t5, nds, by omega, fun T6 p6 word H6 s6 n6 eT6 oA6 => ?_⟩
  refine ⟨T6, _, 1, _, rfl, rfl, .inl (.inl eT6), atI_nat (j := 1) rfl, ?_⟩
  have b6 := b5.same s6
  have np6 : p6 ≠ b := b5.ne_none n6
  refine ⟨_, rfl, _, rfl, b, l, pool, rfl, b6, .inr (s6 _ _ l5), by omega, fun p7 order H7 o7 b7 n7 e7 pm7 => ?_⟩
  have np7 : p7 ≠ b := b6.ne_none n7
  have o57 := (Oth.of s6).trans o7
  have l7 := o57 _ _ nlb l5
  refine ⟨_, rfl, _, rfl, l, _, rfl, .inl (.inl (.inl l7)), fun p8 hp8 => ?_⟩
  have s8 := same_upd (o := .lst (pool.map V.str)) hp8
  have e8 : upd H7 p8 (.lst (pool.map V.str)) p8 = some (.lst (pool.map V.str)) := upd_same
  have np8 : p8 ≠ b := b7.ne_none hp8
  have b8 := b7.same s8
  generalize upd H7 p8 (.lst (pool.map V.str)) = H8 at s8 e8 b8 ⊢
  refine ⟨(by show 0 ≤ sizeLine; decide), fun p9 hp9 => ?_⟩
  have s9 := same_upd (o := .lst []) hp9
  have e9 : upd H8 p9 (.lst []) p9 = some (.lst []) := upd_same
  have np9 : p9 ≠ b := b8.ne_none hp9
  have b9 := b8.same s9
  generalize upd H8 p9 (.lst []) = H9 at s9 e9 b9 ⊢
  refine ⟨(by show 0 ≤ sizeLine; decide), fun p10 H10 s10 n10 e10 => ?_⟩
  have np10 : p10 ≠ b := b9.ne_none n10
  have b10 := b9.same s10
  refine ⟨_, rfl, _, rfl, (by show 1 ≤ sizeLine; decide), fun p11 hp11 => ?_⟩
  have s11 := same_upd (o := .lst [.ref t]) hp11
  have e11 : upd H10 p11 (.lst [.ref t]) p11 = some (.lst [.ref t]) := upd_same
  have np11 : p11 ≠ b := b10.ne_none hp11
  have b11 := b10.same s11
  generalize upd H10 p11 (.lst [.ref t]) = H11 at s11 e11 b11 ⊢
  refine ⟨(by show 9 ≤ sizeLine; decide), fun tl htl => ?_⟩
  have s1011 := s11
  have s911 := s10.trans s1011
  have s811 := s9.trans s911
  have s711 := s8.trans s811
  have o511 := o57.trans (.of s711)
  have t11 := t5.oth o511 b5
  have ntb : t ≠ b := t5.ne b5
  obtain ⟨dO, trO, thO, _, _⟩ := ord_thing (H := H6) irr nds nms (by omega) oA6 b6 np6
  have trO11 := (Tr.oth (bad := fun z => z = b) o7 (show b = b from rfl) trO).same s711
  have T0 : TrAll (fun z => z = b) H11 [dO, .list (order.map .str), .list ((ts.map (·.2)).map encQ), .list (pool.map .str), .list [], .none, .tuple [], .tuple (stand.map .str), .list [.tuple (stand.map .str)]] [.ref p6, .ref p7, .ref L, .ref p8, .ref p9, .non, .ref p10, .ref t, .ref p11] := by
    have tS : Tr (fun z => z = b) H11 (.tuple (stand.map .str)) (.ref t) := tr_tup ntb (.inr t11) (TrAll.strs _)
    refine .cons trO11 (.cons (tr_lst np7 (s711 _ _ e7) (TrAll.strs _)) (.cons (tr_lst nLb (o511 _ _ nLb eL) (enc_tr (pL.oth o511 b5) fun c hc => b5.ne_tup (pL c hc))) (.cons (tr_lst np8 (s811 _ _ e8) (TrAll.strs _)) (.cons (tr_lst np9 (s911 _ _ e9) .nil) (.cons (by simp only [Tr]) (.cons (tr_tup np10 (.inr (e10.same s1011)) .nil) (.cons tS (.cons (tr_lst np11 e11 (.cons tS .nil)) .nil))))))))
  have TH : ∀ d ∈ ([dO, .list (order.map .str), .list ((ts.map (·.2)).map encQ), .list (pool.map .str), .list [], .none, .tuple [], .tuple (stand.map .str), .list [.tuple (stand.map .str)]] : List PyData), Th0 d := by
    have e0 : OkL 0 100 [] := ⟨(fun _ h => nomatch h), by simp only [PyData.weightAll]; exact Nat.zero_le _⟩
    have kS := strs_th (xs := stand) nms (by omega) (.inr rfl)
    intro d hd
    simp only [List.mem_cons, List.not_mem_nil, or_false] at hd
    rcases hd with h | h | h | h | h | h | h | h | h <;> subst h
    · exact thO
    · exact (strs_th (fun x hx => ok2 x (pm7.subset hx)) (by rw [pm7.length_eq]; exact lp) (.inl rfl)).1
    · exact encL_th (fun q hq => by
        obtain ⟨c, hc, rfl⟩ := List.mem_map.mp hq
        obtain ⟨k1, _, k2⟩ := cL c hc
        exact ⟨nms _ k1, k2⟩) (by rw [List.length_map]; omega)
    · exact (strs_th ok2 lp (.inl rfl)).1
    · exact ⟨(okd_list e0).mono (by decide) (by decide), by decide, by decide⟩
    · exact ⟨okd_none, by decide, by decide⟩
    · exact ⟨(okd_tuple e0).mono (by decide) (by decide), by decide, by decide⟩
    · exact kS.1
    · refine ⟨okd_list (OkL.of (n := 1) (w := 100) (fun e he => ?_) ?_), wid_of (.inl rfl) (by show 1 ≤ 12; decide) fun c hc => ?_, big_of (.inl rfl) fun c hc => ?_⟩
      · rw [List.mem_singleton.mp he]
        exact kS.2
      · have := kS.2.fit.wt
        simp only [PyData.weightAll]
        omega
      · rw [List.mem_singleton.mp hc]
        exact kS.1.2.1
      · rw [List.mem_singleton.mp hc]
        exact kS.1.2.2
  have trL11 : Tr (fun z => z = b) H11 (.list ((ts.map (·.2)).map encQ)) (.ref L) := T0.at (i := 2) rfl rfl
  have lX0 := T0.len
  generalize ([dO, .list (order.map .str), .list ((ts.map (·.2)).map encQ), .list (pool.map .str), .list [], .none, .tuple [], .tuple (stand.map .str), .list [.tuple (stand.map .str)]] : List PyData) = D0 at T0 TH lX0
  have lD0 : D0.length = 9 := lX0.symm
  generalize ([.ref p6, .ref p7, .ref L, .ref p8, .ref p9, .non, .ref p10, .ref t, .ref p11] : List V) = X0 at T0 lX0 ⊢
  have s12 := same_upd (o := .lst X0) htl
  have e12 : upd H11 tl (.lst X0) tl = some (.lst X0) := upd_same
  have ntl : tl ≠ b := b11.ne_none htl
  have b12 := b11.same s12
  have tP12 : TrAll (fun z => z = b ∨ z = tl) (upd H11 tl (.lst X0)) D0 X0 := (TrAll.put htl T0).same s12
  have base : ∀ {z : Addr} {o : HO}, H z = some o → z ≠ b → z ≠ tl := fun {z o} e nz e0 => by
    rw [e0] at e nz
    rw [o511 _ _ nz (o05 _ _ nz e)] at htl
    cases htl
  have ntt : t ≠ tl := t11.ne_new htl
  have nLt : L ≠ tl := fun e0 => by
    have := o511 _ _ nLb eL
    rw [e0, htl] at this
    cases this
  have a11 := a5.oth o511 b5
  have nat : a ≠ tl := fun e0 => by
    obtain ⟨bs', h1, _⟩ := a11
    rw [e0, htl] at h1
    cases h1
  have o512 := o511.trans (.of s12)
  have trL12 := (Tr.put htl trL11).same s12
  have a12 := a11.same s12
  have t12 := t11.same s12
  generalize upd H11 tl (.lst X0) = H12 at s12 e12 b12 tP12 o512 trL12 a12 t12 ⊢
  refine ⟨_, rfl, tl, _, rfl, .inl (.inl (.inl e12)), fun W hW => ?_⟩
  have s13 := same_upd (o := .lst X0) hW
  have e13 : upd H12 W (.lst X0) W = some (.lst X0) := upd_same
  have nWb : W ≠ b := b12.ne_none hW
  have nWt : W ≠ tl := fun e0 => by
    rw [e0, e12] at hW
    cases hW
  have b13 := b12.same s13
  have e13t := s13 _ _ e12
  have tP13 := tP12.same s13
  have trL13 := trL12.same s13
  have a13 := a12.same s13
  have t13 := t12.same s13
  have o513 := o512.trans (.of s13)
  generalize upd H12 W (.lst X0) = H13 at s13 e13 b13 e13t tP13 trL13 a13 t13 o513 ⊢
  have nbt : ∀ {H' : Hp}, IsBox H' b → ∀ {X : List V}, H' tl = some (.lst X) → ∀ z, (z = b ∨ z = tl) → H' z ≠ none := fun {H'} hb' {X} ht z hz => by
    rcases hz with e | e
    · obtain ⟨_, _, _, h⟩ := hb'
      rw [e, h]
      exact nofun
    · rw [e, ht]
      exact nofun
  refine ⟨W, rfl, ⟨_, .inl (.inl e13)⟩, ?_⟩
  refine for_it (walk_list (xs := X0)) (fun i σ H' => ∃ (D : List PyData) (X : List V) (y7 y8 y9 y10 y11 y12 : Option V), σ = [some (.ref b), some (.ref l), some (.ref a), some (.ref t), some (.ref L), some (.str last), some (.ref tl), y7, y8, y9, y10, y11, y12] ∧ (∀ z o, ¬ (z = b ∨ z = tl) → H13 z = some o → H' z = some o) ∧ IsBox H' b ∧ H' tl = some (.lst X) ∧ TrAll (fun z => z = b ∨ z = tl) H' D X ∧ (∀ d ∈ D, ThA d) ∧ D.length = 9 + 3 * i) ?_ (fun i σ H' _ h => by
    obtain ⟨D, X, _, _, _, _, _, _, _, kp, _⟩ := h
    exact .inl (.inl (kp W _ (fun z => z.elim nWb nWt) e13))) ?_ ?_
  · exact ⟨D0, X0, _, _, _, _, _, _, rfl, fun z o _ e => e, b13, e13t, tP13, fun d hd => ⟨(TH d hd).1.mono (by decide) (by decide), by have := (TH d hd).2.1; omega⟩, by omega⟩
  · rintro i v σ H20' H20 hi ⟨D1, X1, y7, y8, y9, y10, y11, y12, rfl, kp20, b20, e20, t20, th20, lD20⟩ ⟨rfl, ex⟩
    have hi9 : i < 9 := by omega
    have ed := List.getElem?_eq_getElem (l := D0) (i := i) (by omega)
    have k0 := TH _ (List.mem_of_getElem? ed)
    have tr13 := tP13.at ed ex
    generalize D0[i] = d at ed k0 tr13
    obtain ⟨okd, wid, bid⟩ := k0
    refine ⟨3, rfl, by decide, by decide, ?_⟩
    refine for_it (walk_range (lo := 0) (n := (3 : Int).toNat)) (fun j σ H' => ∃ (D : List PyData) (X : List V) (y8 y9 y10 y11 y12 : Option V), σ = [some (.ref b), some (.ref l), some (.ref a), some (.ref t), some (.ref L), some (.str last), some (.ref tl), some v, y8, y9, y10, y11, y12] ∧ (∀ z o, ¬ (z = b ∨ z = tl) → H13 z = some o → H' z = some o) ∧ IsBox H' b ∧ H' tl = some (.lst X) ∧ TrAll (fun z => z = b ∨ z = tl) H' D X ∧ (∀ d ∈ D, ThA d) ∧ D.length = 9 + 3 * i + j) ?_ (fun _ _ _ _ _ => trivial) ?_ ?_
    · exact ⟨D1, X1, _, _, _, _, _, rfl, kp20, b20, e20, t20, th20, lD20⟩
    · rintro j x σ H21' H21 hj ⟨D, X, y8, y9, y10, y11, y12, rfl, kp21, b21, e21, t21, th21, lD21⟩ ⟨rfl, rfl⟩
      have hj : j < 3 := hj
      have lX := t21.len
      have tr21 : Tr (fun z => z = b ∨ z = tl) H21 d v := tr13.keep kp21
      refine ⟨_, rfl, _, rfl, b, (fun z => z = b ∨ z = tl), d, v, 2, 400, rfl, b21, .inl rfl, nbt b21 e21, tr21, Nat.lt_of_le_of_lt okd.fit.dp (by decide), okd, by decide, by omega, fun d1 v1 H22 o22 b22 t22 k22 => ?_⟩
      have e22 := o22 _ _ ntl e21
      have w22 := k22.wid
      have g22 := k22.big
      have ok22 : Okd 3 1260 d1 := k22.ok
      have kp : ∀ {H9 : Hp} {v9 : V} (c : Addr) (u : HO), ¬ (c = b ∨ c = tl) → H9 c = some u → upd H9 tl (.lst (X ++ [v9])) c = some u := fun c u nc e => (upd_ne (fun z => nc (.inr z))).trans e
      have kb : ∀ {H9 : Hp} {v9 : V}, IsBox H9 b → IsBox (upd H9 tl (.lst (X ++ [v9]))) b := fun {H9 v9} b9 => by
        obtain ⟨i1, i2, i3, e⟩ := b9
        exact ⟨i1, i2, i3, (upd_ne (Ne.symm ntl)).trans e⟩
      have kt : ∀ {H9 : Hp} {v9 : V} {d9 : PyData}, Oth b H21 H9 → Tr (fun z => z = b ∨ z = tl) H9 d9 v9 → TrAll (fun z => z = b ∨ z = tl) (upd H9 tl (.lst (X ++ [v9]))) (D ++ [d9]) (X ++ [v9]) := fun {H9 v9 d9} o9 t9 => ((t21.oth o9 (.inl rfl)).keep kp).app (.cons (t9.keep kp) .nil)
      have ka : ∀ {d9 : PyData}, ThA d9 → ∀ c ∈ D ++ [d9], ThA c := fun {d9} k9 c hc => by
        rcases List.mem_append.mp hc with z | z
        · exact th21 c z
        · rw [List.mem_singleton.mp z]
          exact k9
      have kl : ∀ {d9 : PyData}, (D ++ [d9]).length = 9 + 3 * i + (j + 1) := fun {d9} => by
        rw [List.length_append, lD21]
        rfl
      refine ⟨_, rfl, .inl ⟨rfl, _, .inl (.inl e22)⟩, _, rfl, b, _, rfl, b22, by decide, by decide, fun v6 H23 o23 b23 v60 v61 => ?_⟩
      have e23 := o23 _ _ ntl e22
      have o213 := o22.trans o23
      refine ⟨rfl, _, rfl, ite2 (fun c => ?_) (fun c => ?_)⟩
      · refine ⟨_, rfl, _, rfl, b, (fun z => z = b ∨ z = tl), d1, v1, 3, 1260, rfl, b23, .inl rfl, nbt b23 e23, t22.oth o23 (.inl rfl), Nat.lt_of_le_of_lt ok22.fit.dp (by decide), ok22, by decide, by omega, fun d2 v2 H24 o24 b24 t24 k24 => ?_⟩
        have w24 := k24.wid
        have o214 := o213.trans o24
        refine ⟨tl, X, v2, rfl, rfl, o24 _ _ ntl e23, small_le (by omega), ?_⟩
        exact ⟨_, _, _, _, _, _, _, rfl, fun z o nz e => kp z o nz (o214 z o (fun e0 => nz (.inl e0)) (kp21 z o nz e)), kb b24, upd_same, kt o214 t24, ka ⟨k24.ok.mono (by decide) (by decide), by omega⟩, kl⟩
      · refine ⟨_, rfl, tl, X, v1, rfl, rfl, e23, small_le (by omega), ?_⟩
        exact ⟨_, _, _, _, _, _, _, rfl, fun z o nz e => kp z o nz (o213 z o (fun e0 => nz (.inl e0)) (kp21 z o nz e)), kb b23, upd_same, kt o213 (t22.oth o23 (.inl rfl)), ka ⟨ok22.mono (by decide) (by decide), by omega⟩, kl⟩
    · rintro σ H30 ⟨D, X, y8, y9, y10, y11, y12, rfl, kp30, b30, e30, t30, th30, lD30⟩
      exact ⟨D, X, _, _, _, _, _, _, rfl, kp30, b30, e30, t30, th30, by have : D.length = 9 + 3 * i + 3 := lD30; omega⟩
  · rintro σ H30 ⟨D, X, y7, y8, y9, y10, y11, y12, rfl, kp30, b30, e30, t30, th30, lD30⟩
    have lX := t30.len
    have st30 : TupAt H30 t (stand.map V.str) := by
      obtain ⟨o, h1, h2⟩ := t13
      exact ⟨o, h1, kp30 t _ (fun z => z.elim ntb ntt) h2⟩
    have a30 : PalsAt H30 a ps := by
      obtain ⟨bs', h1, h2, h3⟩ := a13
      refine ⟨bs', kp30 a _ (fun z => z.elim (fun e => b13.ne_tup h1 e) nat) h1, fun c hc => kp30 c.1 _ (fun z => z.elim (fun e => b13.ne_tup (h2 c hc) e) fun e => ?_) (h2 c hc), h3⟩
      have := h2 c hc
      rw [e, e13t] at this
      cases this
    have trL30 := trL13.keep kp30
    have o1330 : Oth b H H30 := fun z o nz e => kp30 z o (fun k => k.elim nz (base e nz)) (o513 z o nz (o05 z o nz e))
    refine ⟨_, rfl, tl, rfl, ⟨_, .inl (.inl e30)⟩, fun Dl hDl => ?_⟩
    have nDb : Dl ≠ b := b30.ne_none hDl
    refine lc_it (walk_list (xs := X)) (fun i H' => Oth b H30 H' ∧ IsBox H' b ∧ H' Dl = some (.lst ((List.replicate i true).map V.bl))) ?_ ?_ ?_ ?_
    · exact ⟨.of (same_upd hDl), b30.same (same_upd hDl), upd_same⟩
    · rintro i H' _ ⟨o, _⟩
      exact .inl (.inl (o _ _ ntl e30))
    · rintro i v H31' H31 hi ⟨o31, b31, d31⟩ ⟨rfl, ex⟩
      have ed := List.getElem?_eq_getElem (l := D) (i := i) (by omega)
      have k0 := th30 _ (List.mem_of_getElem? ed)
      have tr31 := (t30.at ed ex).oth o31 (.inl rfl)
      generalize D[i] = d at ed k0 tr31
      have it := Nat.le_trans (items_wid0 d).1 k0.2
      refine ⟨rfl, _, rfl, _, rfl, _, rfl, _, rfl, b, a, t, v, (fun z => z = b ∨ z = tl), ps, stand, d, 4, rfl, b31, a30.oth o31 b30, hpo, hpl, st30.oth o31 b30, nms, nds, by omega, nes, .inl rfl, tr31, k0.1.mono (Nat.le_refl _) (by decide), by decide, by omega, fun H32 o32 b32 => ?_⟩
      refine ⟨_, o32 _ _ nDb d31, (by rw [List.length_map, List.length_replicate]; exact small1000 (by omega)), fun z o nz e => ?_, ?_, ?_⟩
      · rw [upd_ne (ne_of_none e hDl)]
        exact o32 _ _ nz (o31 _ _ nz e)
      · obtain ⟨i1, i2, i3, e⟩ := b32
        exact ⟨i1, i2, i3, (upd_ne (Ne.symm nDb)).trans e⟩
      · rw [upd_same, List.replicate_succ', List.map_append]
        rfl
    rintro H31 ⟨o31, b31, d31⟩
    refine ⟨Dl, _, rfl, .inl (.inl d31), true, by rw [show (List.replicate X.length true).all id = true by simp], ?_⟩
    have st31 := st30.oth o31 b30
    have a31 := a30.oth o31 b30
    have trL31 := Tr.oth (bad := fun z => z = b ∨ z = tl) o31 (.inl rfl) trL30
    refine ⟨fun σ' H' => ∃ (y10 y11 : Option V), σ' = [some (.ref b), some (.ref l), some (.ref a), some (.ref t), some (.ref L), some (.str last), some (.ref tl), y7, y8, y9, y10, y11, y12] ∧ Same H31 H', ?_, ?_⟩
    · have nkL : ∀ q ∈ ts.map (·.2), NameOk q.1 ∧ NameOk q.2 := fun q hq => by
        obtain ⟨c, hc, rfl⟩ := List.mem_map.mp hq
        obtain ⟨k1, _, k2⟩ := cL c hc
        exact ⟨nms _ k1, k2⟩
      have okL := encL_th nkL (by rw [List.length_map]; omega)
      have lq : (ts.map (·.2)).length ≤ 4 := by rw [List.length_map]; exact lL
      generalize ts.map (·.2) = qs at trL31 nkL okL lq
      refine ⟨_, rfl, (by show 0 ≤ sizeLine; decide), fun nl hnl => ?_⟩
      have s32 := same_upd (o := .lst []) hnl
      have e32 : upd H31 nl (.lst []) nl = some (.lst []) := upd_same
      generalize upd H31 nl (.lst []) = H32 at s32 e32 ⊢
      have tr32 := trL31.same s32
      refine ⟨nl, _, tr32.dp, rfl, e32, shaped_of okL.1 (by decide), _, rfl, ?_⟩
      refine ite2 (fun c => ?_) (fun c => ?_)
      rotate_left
      · exact ⟨_, _, rfl, s32⟩
      have l0 : 0 < (qs.map encQ).length := by
        rcases Nat.eq_zero_or_pos (qs.map encQ).length with z | z
        · rw [z] at c
          cases c
        · exact z
      have l0' : 0 < qs.length := by rw [List.length_map] at l0; exact l0
      have itq : (itemsD (.list (qs.map encQ))).length ≤ 4 := by
        show (qs.map encQ).length ≤ 4
        rw [List.length_map]
        exact lq
      have eq0 := List.getElem?_eq_getElem l0'
      have trX := tr32
      simp only [Tr] at trX
      obtain ⟨L', xs, eL', nL', hL', tx⟩ := trX
      cases eL'
      have lx := tx.len
      have ed : (qs.map encQ)[0]? = some (encQ qs[0]) := by rw [List.getElem?_map, eq0]; rfl
      have ex := List.getElem?_eq_getElem (l := xs) (i := 0) (by omega)
      obtain ⟨P, x1, hv, hP, _⟩ := pair_at (d := encQ qs[0]) True.intro (tx.at ed ex)
      rw [hv] at ex
      have hP : TupX H32 P [.str qs[0].1, x1] := hP
      generalize qs[0].1 = one at hP
      have a32 := a31.same s32
      have st32 := st31.same s32
      generalize hdL : PyData.list (qs.map encQ) = dL at tr32 okL itq
      refine ⟨_, rfl, _, rfl, _, rfl, L, _, 0, _, rfl, rfl, .inl (.inl hL'), atI_nat (j := 0) ex, P, _, 0, _, rfl, rfl, hP.sq, atI_nat (j := 0) rfl, _, rfl, _, rfl, a, t, one, last, .ref L, _, ps, stand, dL, rfl, a32, hpo, st32, gs, nds, by omega, mlast, tr32, by omega, fun H33 s33 => ?_⟩
      have hL3 := s33 _ _ hL'
      have hP3 := hP.same s33
      refine ⟨_, rfl, _, rfl, _, rfl, L, _, 0, _, rfl, rfl, .inl (.inl hL3), atI_nat (j := 0) ex, P, _, 0, _, rfl, rfl, hP3.sq, atI_nat (j := 0) rfl, _, rfl, _, rfl, a, t, one, last, .ref L, _, ps, stand, dL, 2, rfl, (a32.same s33).fr, hpl, .inl (st32.same s33), by omega, nds, tr32.same s33, okL.1.mono (Nat.le_refl _) (by decide), by decide, by omega, fun H34 s34 => ?_⟩
      refine ⟨(by show 1 ≤ sizeLine; decide), fun M hM => ?_⟩
      have s324 := s33.trans s34
      have s35 := same_upd (o := .lst [.bl (chainP ps stand one last dL)]) hM
      have e35 : upd H34 M (.lst [.bl (chainP ps stand one last dL)]) M = some (.lst [.bl (chainP ps stand one last dL)]) := upd_same
      generalize upd H34 M (.lst [.bl (chainP ps stand one last dL)]) = H35 at s35 e35 ⊢
      have s325 := s324.trans s35
      have hL5 := s325 _ _ hL'
      have hP5 := hP.same s325
      refine ⟨_, rfl, .inl ⟨rfl, _, .inl (.inl e35)⟩, _, rfl, _, rfl, _, rfl, L, _, 0, _, rfl, rfl, .inl (.inl hL5), atI_nat (j := 0) ex, P, _, 0, _, rfl, rfl, hP5.sq, atI_nat (j := 0) rfl, _, rfl, _, rfl, a, t, one, last, .ref L, _, ps, stand, dL, 2, rfl, (a32.same s325).fr, hpl, .inl (st32.same s325), by omega, nds, tr32.same s325, okL.1.mono (Nat.le_refl _) (by decide), by decide, by omega, fun H36 s36 => ?_⟩
      have e36 := s36 _ _ e35
      have s346 : Same H34 (upd H36 M (.lst ([.bl (chainP ps stand one last dL)] ++ [.bl (chainP ps stand one last dL)]))) := fun z o e => by
        rw [upd_ne (ne_of_none e hM)]
        exact s36 _ _ (s35 _ _ e)
      refine ⟨M, _, _, rfl, rfl, e36, (by show 1 < sizeLine; decide), ?_⟩
      have e37 : upd H36 M (.lst ([.bl (chainP ps stand one last dL)] ++ [.bl (chainP ps stand one last dL)])) M = some (.lst ([chainL ps stand one last dL, chainL ps stand one last dL].map V.bl)) := by
        rw [upd_same, chain_eq nms]
        rfl
      generalize upd H36 M (.lst ([.bl (chainP ps stand one last dL)] ++ [.bl (chainP ps stand one last dL)])) = H37 at s346 e37 ⊢
      refine ⟨_, rfl, _, rfl, _, rfl, (by show 2 ≤ sizeLine; decide), fun N hN => ?_⟩
      have s38 := same_upd (o := .lst [.bl (chainL ps stand one last dL), .bl (chainL ps stand one last dL)]) hN
      have e38 : upd H37 N (.lst [.bl (chainL ps stand one last dL), .bl (chainL ps stand one last dL)]) N = some (.lst ([chainL ps stand one last dL, chainL ps stand one last dL].map V.bl)) := upd_same
      generalize upd H37 N (.lst [.bl (chainL ps stand one last dL), .bl (chainL ps stand one last dL)]) = H38 at s38 e38 ⊢
      refine ⟨_, _, rfl, alk_bls (s38 _ _ e37) e38 (by show 2 ≤ 1000; decide), fun H39 s39 => ⟨_, rfl, ?_⟩⟩
      exact ⟨_, _, rfl, (s32.trans s324).trans ((s346.trans s38).trans s39)⟩
    rintro σ' H40 ⟨y10', y11', rfl, s40⟩
    have st40 := st31.same s40
    have a40 := a31.same s40
    have b40 := b31.same s40
    refine ⟨_, rfl, _, rfl, a, t, ps, stand, rfl, a40.fr, hpl, irr, .inl st40, nds, by omega, fun T9 p wd H41 s41 n41 eT9 oA => ?_⟩
    refine ⟨T9, _, rfl, .inl (.inl eT9), rfl, _, _, rfl, _, _, rfl, rfl, ?_⟩
    have np : p ≠ b := b40.ne_none n41
    have b41 := b40.same s41
    obtain ⟨dX, trX, thX, eX1, eX2⟩ := ord_thing irr nds nms (by omega) oA b41 np
    have wX := thX.1.fit.wt
    have iX := Nat.le_trans (items_wid0 dX).1 thX.2.1
    have st41 := st40.same s41
    have a41 := a40.same s41
    refine ⟨_, rfl, _, rfl, _, rfl, a, t, .ref p, _, ps, stand, dX, rfl, a41.fr, hpl, .inl st41, gs, trX, by omega, by omega, fun H42 s42 => ?_⟩
    refine ⟨_, rfl, _, rfl, _, rfl, a, t, .ref p, _, ps, stand, dX, 2, rfl, (a41.same s42).fr, hpl, .inl (st41.same s42), by omega, nds, trX.same s42, thX.1.mono (Nat.le_refl _) (by decide), by decide, by omega, fun H43 s43 => ?_⟩
    refine ⟨(by show 2 ≤ sizeLine; decide), fun M hM => ?_⟩
    have s44 := same_upd (o := .lst [.bl (orderP ps stand dX), .bl (ringP ps stand dX)]) hM
    have e44 : upd H43 M (.lst [.bl (orderP ps stand dX), .bl (ringP ps stand dX)]) M = some (.lst ([decide (V.str wd = V.str "order"), decide (V.str wd = V.str "ring")].map V.bl)) := by
      rw [upd_same, eX1, eX2]
      rfl
    generalize upd H43 M (.lst [.bl (orderP ps stand dX), .bl (ringP ps stand dX)]) = H44 at s44 e44 ⊢
    refine ⟨_, rfl, _, rfl, rfl, _, rfl, rfl, (by show 2 ≤ sizeLine; decide), fun N hN => ?_⟩
    have s45 := same_upd (o := .lst [.bl (decide (V.str wd = V.str "order")), .bl (decide (V.str wd = V.str "ring"))]) hN
    refine ⟨_, _, rfl, alk_bls (s45 _ _ e44) upd_same (by show 2 ≤ 1000; decide), fun H46 s46 => ?_⟩
    exact q _ ((o1330.trans o31).trans (.of (((((s40.trans s41).trans s42).trans s43).trans s44).trans (s45.trans s46))))
/-! ### law -/
abbrev sLaw : Stmt := topS 57
abbrev nLaw : List Str := ["_law_script", "_law_cells_here", "_law_k"]
theorem scLaw : FnScope nLaw ["_law_script"] (defScope sLaw) := ⟨rfl, rfl, rfl, by decide +kernel, rfl, by decide +kernel, by decide +kernel⟩
theorem ok_law {f : Addr} {fd : FuncData} {n : Nat} (B : Blt mg) (CC : Cal P w K mg base 1 "_law_cells" ["_law_script", "_law_utmost"] (spCells K)) (CX : Cal P w K mg base 1 "_law_box" ["_law_cells_here", "_law_k"] spBox) (CR : Cal P w K mg base (n + 1) "_law_right" ["_law_box_here"] spRight) (F : Fun K "law" "law" sLaw f fd) : FnOk P w K mg base CX0 (n + 2) f fd ["_law_script"] (spLaw K) := by
  refine fok F scLaw (fun vs H Q E h => ?_) (fun cdv A outer s H vs Q E hr h => ?_)
  · obtain ⟨a, ns, rfl, _⟩ := h
    rfl
  obtain ⟨a, ns, rfl, ha, hn, q⟩ := h
  have h1 : Room 1 _ := hr.mono (by omega)
  refine ⟨_, pss_cons (ps_set (i := 1) scLaw.nd rfl (.inr rfl) (pe_cal CC h1 (pa_cons (pv 0) (pa_cons pe_int pa_nil))))
    (pss_one (ps_ret (pe_callB (cr_all rfl) (by rfl) B.all (by decide +kernel) (pa_cons (pe_lc (own := [("_law_k", 2)]) (g := gName 2) (tt := tYes) rfl scLaw.nd (pi_range1 (by rfl) B.range (pa_cons (pe_callB call_len_seq (by rfl) B.len PySem.boot_len (pa_cons (pv 1) pa_nil)) pa_nil)) (blkOk_by (N := nLaw) (sc := defScope sLaw) (by decide +kernel))
      (fun _ _ _ _ _ => pg_name (i := 2) scLaw.nd rfl (Or.inl rfl)) (fun _ _ _ _ _ => pts_nil) (fun _ _ _ _ _ => pe_cal CR hr (pa_cons (pe_cal CX h1 (pa_cons (pv 1) (pa_cons (pv 2) pa_nil))) pa_nil))) pa_nil)))), ?_⟩
  refine ⟨.ref a, rfl, a, ns, _, rfl, ha, hn, by decide, by decide, fun c ms H1 s1 nc e1 m0 m3 => ?_⟩
  refine ⟨.ref c, rfl, c, _, rfl, .inl (.inl (.inl e1)), _, rfl, ?_, ?_, fun D hD => ?_⟩
  · rw [List.length_map]
    omega
  · rw [List.length_map]
    omega
  rw [List.length_map]
  have ncD : c ≠ D := ne_of_none e1 hD
  refine lc_it (walk_range (lo := 0) (n := ((ms.length : Int)).toNat)) (fun i H' => H' c = some (.lst (ms.map V.int)) ∧ H' D = some (.lst ((List.replicate i true).map V.bl))) ?_ (fun _ _ _ _ => trivial) ?_ ?_
  · exact ⟨(upd_ne ncD).trans e1, upd_same⟩
  · rintro i x H3 H2 hi ⟨e2, d2⟩ ⟨rfl, rfl⟩
    have ei : (0 : Int) + (i : Int) = (i : Int) := Int.zero_add _
    refine ⟨rfl, ⟨.ref c, rfl, _, rfl, c, ms, i, congrArg (fun z => [V.ref c, V.int z]) ei, e2, by omega, by omega, fun b H4 s4 nb b4 => ?_⟩⟩
    have c4 := s4 _ _ e2
    have d4 := s4 _ _ d2
    have ncb : c ≠ b := ne_of_none e2 nb
    have nDb : D ≠ b := ne_of_none d2 nb
    refine ⟨b, rfl, b4, fun H5 o5 => ?_⟩
    have c5 := o5 _ _ ncb c4
    have d5 := o5 _ _ nDb d4
    refine ⟨_, d5, ?_, (upd_ne ncD).trans c5, ?_⟩
    · rw [List.length_map, List.length_replicate]
      exact small1000 (by omega)
    · rw [upd_same, List.replicate_succ', List.map_append]
      rfl
  · rintro H2 ⟨e2, d2⟩
    refine ⟨D, _, rfl, .inl (.inl d2), ?_⟩
    rw [show (List.replicate ((ms.length : Int)).toNat true).all id = true by simp]
    exact q _
end
/-! ### what the top has written; the law's own head -/
theorem all_mk {l : PySem.W.OpenLaw} {w : World} {K : PySem.W.Frag} {h : Heap} {mg : Str → Option Value} {fa f1 f2 f3 f4 f5 f6 f7 f8 f9 f10 f11 f12 f13 f14 f15 f16 f17 f18 f19 f20 f21 f22 f23 f24 f25 f26 f27 f28 f29 f30 f31 f32 f33 f34 f35 f36 f37 f38 f39 f40 f41 f42 f43 f44 f45 f46 f47 f48 : Addr} (XK : K.In h) (G : h.Ns mainGlobals mg) (hfa : mg "law" = some (.ref fa))
    {od1 an1 od2 an2 od3 an3 od4 an4 od5 an5 od6 an6 od7 an7 od8 an8 od9 an9 od10 an10 od11 an11 od12 an12 od13 an13 od14 an14 od15 an15 od16 an16 od17 an17 od18 an18 od19 an19 od20 an20 od21 an21 od22 an22 od23 an23 od24 an24 od25 an25 od26 an26 od27 an27 od28 an28 od29 an29 od30 an30 od31 an31 od32 an32 od33 an33 od34 an34 od35 an35 od36 an36 od37 an37 od38 an38 od39 an39 od40 an40 od41 an41 od42 an42 od43 an43 od44 an44 od45 an45 od46 an46 od47 an47 od48 an48 : Option Addr} {sl1 sl2 sl3 sl4 sl5 sl6 sl7 sl8 sl9 sl10 sl11 sl12 sl13 sl14 sl15 sl16 sl17 sl18 sl19 sl20 sl21 sl22 sl23 sl24 sl25 sl26 sl27 sl28 sl29 sl30 sl31 sl32 sl33 sl34 sl35 sl36 sl37 sl38 sl39 sl40 sl41 sl42 sl43 sl44 sl45 sl46 sl47 sl48 : Array (Option Value)} {oc1 kV1 dc1 pm1 cd1 ct1 oc2 kV2 dc2 pm2 cd2 ct2 oc3 kV3 dc3 pm3 cd3 ct3 oc4 kV4 dc4 pm4 cd4 ct4 oc5 kV5 dc5 pm5 cd5 ct5 oc6 kV6 dc6 pm6 cd6 ct6 oc7 kV7 dc7 pm7 cd7 ct7 oc8 kV8 dc8 pm8 cd8 ct8 oc9 kV9 dc9 pm9 cd9 ct9 oc10 kV10 dc10 pm10 cd10 ct10 oc11 kV11 dc11 pm11 cd11 ct11 oc12 kV12 dc12 pm12 cd12 ct12 oc13 kV13 dc13 pm13 cd13 ct13 oc14 kV14 dc14 pm14 cd14 ct14 oc15 kV15 dc15 pm15 cd15 ct15 oc16 kV16 dc16 pm16 cd16 ct16 oc17 kV17 dc17 pm17 cd17 ct17 oc18 kV18 dc18 pm18 cd18 ct18 oc19 kV19 dc19 pm19 cd19 ct19 oc20 kV20 dc20 pm20 cd20 ct20 oc21 kV21 dc21 pm21 cd21 ct21 oc22 kV22 dc22 pm22 cd22 ct22 oc23 kV23 dc23 pm23 cd23 ct23 oc24 kV24 dc24 pm24 cd24 ct24 oc25 kV25 dc25 pm25 cd25 ct25 oc26 kV26 dc26 pm26 cd26 ct26 oc27 kV27 dc27 pm27 cd27 ct27 oc28 kV28 dc28 pm28 cd28 ct28 oc29 kV29 dc29 pm29 cd29 ct29 oc30 kV30 dc30 pm30 cd30 ct30 oc31 kV31 dc31 pm31 cd31 ct31 oc32 kV32 dc32 pm32 cd32 ct32 oc33 kV33 dc33 pm33 cd33 ct33 oc34 kV34 dc34 pm34 cd34 ct34 oc35 kV35 dc35 pm35 cd35 ct35 oc36 kV36 dc36 pm36 cd36 ct36 oc37 kV37 dc37 pm37 cd37 ct37 oc38 kV38 dc38 pm38 cd38 ct38 oc39 kV39 dc39 pm39 cd39 ct39 oc40 kV40 dc40 pm40 cd40 ct40 oc41 kV41 dc41 pm41 cd41 ct41 oc42 kV42 dc42 pm42 cd42 ct42 oc43 kV43 dc43 pm43 cd43 ct43 oc44 kV44 dc44 pm44 cd44 ct44 oc45 kV45 dc45 pm45 cd45 ct45 oc46 kV46 dc46 pm46 cd46 ct46 oc47 kV47 dc47 pm47 cd47 ct47 oc48 kV48 dc48 pm48 cd48 ct48 : Value}
    (a1 : PySem.W.nsIn K mainGlobals "is_name" = some (some (.ref f1))) (l1 : K.lookup f1 = some ⟨oc1, od1, .func (PySem.W.fnOf "is_name" "is_name" (defArgs sIsName) (defBody sIsName) (defScope sIsName) .none kV1 dc1 pm1 an1 cd1 ct1), sl1⟩) (c1 : PySem.W.codeIn K cd1 "is_name" = true) (k1 : PySem.W.keepIn K (.ref f1) = true)
    (a2 : PySem.W.nsIn K mainGlobals "is_row" = some (some (.ref f2))) (l2 : K.lookup f2 = some ⟨oc2, od2, .func (PySem.W.fnOf "is_row" "is_row" (defArgs sIsRow) (defBody sIsRow) (defScope sIsRow) .none kV2 dc2 pm2 an2 cd2 ct2), sl2⟩) (c2 : PySem.W.codeIn K cd2 "is_row" = true) (k2 : PySem.W.keepIn K (.ref f2) = true)
    (a3 : PySem.W.nsIn K mainGlobals "both_ways" = some (some (.ref f3))) (l3 : K.lookup f3 = some ⟨oc3, od3, .func (PySem.W.fnOf "both_ways" "both_ways" (defArgs sBoth) (defBody sBoth) (defScope sBoth) .none kV3 dc3 pm3 an3 cd3 ct3), sl3⟩) (c3 : PySem.W.codeIn K cd3 "both_ways" = true) (k3 : PySem.W.keepIn K (.ref f3) = true)
    (a4 : PySem.W.nsIn K mainGlobals "last_friend_place" = some (some (.ref f4))) (l4 : K.lookup f4 = some ⟨oc4, od4, .func (PySem.W.fnOf "last_friend_place" "last_friend_place" (defArgs sLfp) (defBody sLfp) (defScope sLfp) .none kV4 dc4 pm4 an4 cd4 ct4), sl4⟩) (c4 : PySem.W.codeIn K cd4 "last_friend_place" = true) (k4 : PySem.W.keepIn K (.ref f4) = true)
    (a5 : PySem.W.nsIn K mainGlobals "bar_words" = some (some (.ref f5))) (l5 : K.lookup f5 = some ⟨oc5, od5, .func (PySem.W.fnOf "bar_words" "bar_words" (defArgs sBarW) (defBody sBarW) (defScope sBarW) .none kV5 dc5 pm5 an5 cd5 ct5), sl5⟩) (c5 : PySem.W.codeIn K cd5 "bar_words" = true) (k5 : PySem.W.keepIn K (.ref f5) = true)
    (a6 : PySem.W.nsIn K mainGlobals "host_place" = some (some (.ref f6))) (l6 : K.lookup f6 = some ⟨oc6, od6, .func (PySem.W.fnOf "host_place" "host_place" (defArgs sHostP) (defBody sHostP) (defScope sHostP) .none kV6 dc6 pm6 an6 cd6 ct6), sl6⟩) (c6 : PySem.W.codeIn K cd6 "host_place" = true) (k6 : PySem.W.keepIn K (.ref f6) = true)
    (a7 : PySem.W.nsIn K mainGlobals "coming_place" = some (some (.ref f7))) (l7 : K.lookup f7 = some ⟨oc7, od7, .func (PySem.W.fnOf "coming_place" "coming_place" (defArgs sComingP) (defBody sComingP) (defScope sComingP) .none kV7 dc7 pm7 an7 cd7 ct7), sl7⟩) (c7 : PySem.W.codeIn K cd7 "coming_place" = true) (k7 : PySem.W.keepIn K (.ref f7) = true)
    (a8 : PySem.W.nsIn K mainGlobals "stood_in" = some (some (.ref f8))) (l8 : K.lookup f8 = some ⟨oc8, od8, .func (PySem.W.fnOf "stood_in" "stood_in" (defArgs sStood) (defBody sStood) (defScope sStood) .none kV8 dc8 pm8 an8 cd8 ct8), sl8⟩) (c8 : PySem.W.codeIn K cd8 "stood_in" = true) (k8 : PySem.W.keepIn K (.ref f8) = true)
    (a9 : PySem.W.nsIn K mainGlobals "row_of" = some (some (.ref f9))) (l9 : K.lookup f9 = some ⟨oc9, od9, .func (PySem.W.fnOf "row_of" "row_of" (defArgs sRowOf) (defBody sRowOf) (defScope sRowOf) .none kV9 dc9 pm9 an9 cd9 ct9), sl9⟩) (c9 : PySem.W.codeIn K cd9 "row_of" = true) (k9 : PySem.W.keepIn K (.ref f9) = true)
    (a10 : PySem.W.nsIn K mainGlobals "shows_order" = some (some (.ref f10))) (l10 : K.lookup f10 = some ⟨oc10, od10, .func (PySem.W.fnOf "shows_order" "shows_order" (defArgs sShowsO) (defBody sShowsO) (defScope sShowsO) .none kV10 dc10 pm10 an10 cd10 ct10), sl10⟩) (c10 : PySem.W.codeIn K cd10 "shows_order" = true) (k10 : PySem.W.keepIn K (.ref f10) = true)
    (a11 : PySem.W.nsIn K mainGlobals "is_link" = some (some (.ref f11))) (l11 : K.lookup f11 = some ⟨oc11, od11, .func (PySem.W.fnOf "is_link" "is_link" (defArgs sIsLink) (defBody sIsLink) (defScope sIsLink) .none kV11 dc11 pm11 an11 cd11 ct11), sl11⟩) (c11 : PySem.W.codeIn K cd11 "is_link" = true) (k11 : PySem.W.keepIn K (.ref f11) = true)
    (a12 : PySem.W.nsIn K mainGlobals "are_links" = some (some (.ref f12))) (l12 : K.lookup f12 = some ⟨oc12, od12, .func (PySem.W.fnOf "are_links" "are_links" (defArgs sAreLinks) (defBody sAreLinks) (defScope sAreLinks) .none kV12 dc12 pm12 an12 cd12 ct12), sl12⟩) (c12 : PySem.W.codeIn K cd12 "are_links" = true) (k12 : PySem.W.keepIn K (.ref f12) = true)
    (a13 : PySem.W.nsIn K mainGlobals "each_bars_the_next" = some (some (.ref f13))) (l13 : K.lookup f13 = some ⟨oc13, od13, .func (PySem.W.fnOf "each_bars_the_next" "each_bars_the_next" (defArgs sEachB) (defBody sEachB) (defScope sEachB) .none kV13 dc13 pm13 an13 cd13 ct13), sl13⟩) (c13 : PySem.W.codeIn K cd13 "each_bars_the_next" = true) (k13 : PySem.W.keepIn K (.ref f13) = true)
    (a14 : PySem.W.nsIn K mainGlobals "shows_ring" = some (some (.ref f14))) (l14 : K.lookup f14 = some ⟨oc14, od14, .func (PySem.W.fnOf "shows_ring" "shows_ring" (defArgs sShowsR) (defBody sShowsR) (defScope sShowsR) .none kV14 dc14 pm14 an14 cd14 ct14), sl14⟩) (c14 : PySem.W.codeIn K cd14 "shows_ring" = true) (k14 : PySem.W.keepIn K (.ref f14) = true)
    (a15 : PySem.W.nsIn K mainGlobals "shows_chain" = some (some (.ref f15))) (l15 : K.lookup f15 = some ⟨oc15, od15, .func (PySem.W.fnOf "shows_chain" "shows_chain" (defArgs sShowsC) (defBody sShowsC) (defScope sShowsC) .none kV15 dc15 pm15 an15 cd15 ct15), sl15⟩) (c15 : PySem.W.codeIn K cd15 "shows_chain" = true) (k15 : PySem.W.keepIn K (.ref f15) = true)
    (a16 : PySem.W.nsIn K mainGlobals "loose_at" = some (some (.ref f16))) (l16 : K.lookup f16 = some ⟨oc16, od16, .func (PySem.W.fnOf "loose_at" "loose_at" (defArgs sLooseAt) (defBody sLooseAt) (defScope sLooseAt) .none kV16 dc16 pm16 an16 cd16 ct16), sl16⟩) (c16 : PySem.W.codeIn K cd16 "loose_at" = true) (k16 : PySem.W.keepIn K (.ref f16) = true)
    (a17 : PySem.W.nsIn K mainGlobals "hindmost_loose" = some (some (.ref f17))) (l17 : K.lookup f17 = some ⟨oc17, od17, .func (PySem.W.fnOf "hindmost_loose" "hindmost_loose" (defArgs sHind) (defBody sHind) (defScope sHind) .none kV17 dc17 pm17 an17 cd17 ct17), sl17⟩) (c17 : PySem.W.codeIn K cd17 "hindmost_loose" = true) (k17 : PySem.W.keepIn K (.ref f17) = true)
    (a18 : PySem.W.nsIn K mainGlobals "gone_and_stayed" = some (some (.ref f18))) (l18 : K.lookup f18 = some ⟨oc18, od18, .func (PySem.W.fnOf "gone_and_stayed" "gone_and_stayed" (defArgs sStayed) (defBody sStayed) (defScope sStayed) .none kV18 dc18 pm18 an18 cd18 ct18), sl18⟩) (c18 : PySem.W.codeIn K cd18 "gone_and_stayed" = true) (k18 : PySem.W.keepIn K (.ref f18) = true)
    (a19 : PySem.W.nsIn K mainGlobals "gone_and_left" = some (some (.ref f19))) (l19 : K.lookup f19 = some ⟨oc19, od19, .func (PySem.W.fnOf "gone_and_left" "gone_and_left" (defArgs sGone) (defBody sGone) (defScope sGone) .none kV19 dc19 pm19 an19 cd19 ct19), sl19⟩) (c19 : PySem.W.codeIn K cd19 "gone_and_left" = true) (k19 : PySem.W.keepIn K (.ref f19) = true)
    (a20 : PySem.W.nsIn K mainGlobals "next_barred" = some (some (.ref f20))) (l20 : K.lookup f20 = some ⟨oc20, od20, .func (PySem.W.fnOf "next_barred" "next_barred" (defArgs sNextB) (defBody sNextB) (defScope sNextB) .none kV20 dc20 pm20 an20 cd20 ct20), sl20⟩) (c20 : PySem.W.codeIn K cd20 "next_barred" = true) (k20 : PySem.W.keepIn K (.ref f20) = true)
    (a21 : PySem.W.nsIn K mainGlobals "ring_among" = some (some (.ref f21))) (l21 : K.lookup f21 = some ⟨oc21, od21, .func (PySem.W.fnOf "ring_among" "ring_among" (defArgs sRingA) (defBody sRingA) (defScope sRingA) .none kV21 dc21 pm21 an21 cd21 ct21), sl21⟩) (c21 : PySem.W.codeIn K cd21 "ring_among" = true) (k21 : PySem.W.keepIn K (.ref f21) = true)
    (a22 : PySem.W.nsIn K mainGlobals "order_of" = some (some (.ref f22))) (l22 : K.lookup f22 = some ⟨oc22, od22, .func (PySem.W.fnOf "order_of" "order_of" (defArgs sOrderOf) (defBody sOrderOf) (defScope sOrderOf) .none kV22 dc22 pm22 an22 cd22 ct22), sl22⟩) (c22 : PySem.W.codeIn K cd22 "order_of" = true) (k22 : PySem.W.keepIn K (.ref f22) = true)
    (a23 : PySem.W.nsIn K mainGlobals "_law_box" = some (some (.ref f23))) (l23 : K.lookup f23 = some ⟨oc23, od23, .func (PySem.W.fnOf "_law_box" "_law_box" (defArgs sBox) (defBody sBox) (defScope sBox) .none kV23 dc23 pm23 an23 cd23 ct23), sl23⟩) (c23 : PySem.W.codeIn K cd23 "_law_box" = true) (k23 : PySem.W.keepIn K (.ref f23) = true)
    (a24 : PySem.W.nsIn K mainGlobals "_law_take" = some (some (.ref f24))) (l24 : K.lookup f24 = some ⟨oc24, od24, .func (PySem.W.fnOf "_law_take" "_law_take" (defArgs sTake) (defBody sTake) (defScope sTake) .none kV24 dc24 pm24 an24 cd24 ct24), sl24⟩) (c24 : PySem.W.codeIn K cd24 "_law_take" = true) (k24 : PySem.W.keepIn K (.ref f24) = true)
    (a25 : PySem.W.nsIn K mainGlobals "_law_cells" = some (some (.ref f25))) (l25 : K.lookup f25 = some ⟨oc25, od25, .func (PySem.W.fnOf "_law_cells" "_law_cells" (defArgs sCells) (defBody sCells) (defScope sCells) .none kV25 dc25 pm25 an25 cd25 ct25), sl25⟩) (c25 : PySem.W.codeIn K cd25 "_law_cells" = true) (k25 : PySem.W.keepIn K (.ref f25) = true)
    (a26 : PySem.W.nsIn K mainGlobals "_law_names" = some (some (.ref f26))) (l26 : K.lookup f26 = some ⟨oc26, od26, .func (PySem.W.fnOf "_law_names" "_law_names" (defArgs sNames) (defBody sNames) (defScope sNames) .none kV26 dc26 pm26 an26 cd26 ct26), sl26⟩) (c26 : PySem.W.codeIn K cd26 "_law_names" = true) (k26 : PySem.W.keepIn K (.ref f26) = true)
    (a27 : PySem.W.nsIn K mainGlobals "_law_pals" = some (some (.ref f27))) (l27 : K.lookup f27 = some ⟨oc27, od27, .func (PySem.W.fnOf "_law_pals" "_law_pals" (defArgs sPals) (defBody sPals) (defScope sPals) .none kV27 dc27 pm27 an27 cd27 ct27), sl27⟩) (c27 : PySem.W.codeIn K cd27 "_law_pals" = true) (k27 : PySem.W.keepIn K (.ref f27) = true)
    (a28 : PySem.W.nsIn K mainGlobals "_law_are" = some (some (.ref f28))) (l28 : K.lookup f28 = some ⟨oc28, od28, .func (PySem.W.fnOf "_law_are" "_law_are" (defArgs sAre) (defBody sAre) (defScope sAre) .none kV28 dc28 pm28 an28 cd28 ct28), sl28⟩) (c28 : PySem.W.codeIn K cd28 "_law_are" = true) (k28 : PySem.W.keepIn K (.ref f28) = true)
    (a29 : PySem.W.nsIn K mainGlobals "_law_come" = some (some (.ref f29))) (l29 : K.lookup f29 = some ⟨oc29, od29, .func (PySem.W.fnOf "_law_come" "_law_come" (defArgs sCome) (defBody sCome) (defScope sCome) .none kV29 dc29 pm29 an29 cd29 ct29), sl29⟩) (c29 : PySem.W.codeIn K cd29 "_law_come" = true) (k29 : PySem.W.keepIn K (.ref f29) = true)
    (a30 : PySem.W.nsIn K mainGlobals "_law_stand_of" = some (some (.ref f30))) (l30 : K.lookup f30 = some ⟨oc30, od30, .func (PySem.W.fnOf "_law_stand_of" "_law_stand_of" (defArgs sStandOf) (defBody sStandOf) (defScope sStandOf) .none kV30 dc30 pm30 an30 cd30 ct30), sl30⟩) (c30 : PySem.W.codeIn K cd30 "_law_stand_of" = true) (k30 : PySem.W.keepIn K (.ref f30) = true)
    (a31 : PySem.W.nsIn K mainGlobals "_law_strewn" = some (some (.ref f31))) (l31 : K.lookup f31 = some ⟨oc31, od31, .func (PySem.W.fnOf "_law_strewn" "_law_strewn" (defArgs sStrewn) (defBody sStrewn) (defScope sStrewn) .none kV31 dc31 pm31 an31 cd31 ct31), sl31⟩) (c31 : PySem.W.codeIn K cd31 "_law_strewn" = true) (k31 : PySem.W.keepIn K (.ref f31) = true)
    (a32 : PySem.W.nsIn K mainGlobals "_law_host" = some (some (.ref f32))) (l32 : K.lookup f32 = some ⟨oc32, od32, .func (PySem.W.fnOf "_law_host" "_law_host" (defArgs sHost) (defBody sHost) (defScope sHost) .none kV32 dc32 pm32 an32 cd32 ct32), sl32⟩) (c32 : PySem.W.codeIn K cd32 "_law_host" = true) (k32 : PySem.W.keepIn K (.ref f32) = true)
    (a33 : PySem.W.nsIn K mainGlobals "_law_words" = some (some (.ref f33))) (l33 : K.lookup f33 = some ⟨oc33, od33, .func (PySem.W.fnOf "_law_words" "_law_words" (defArgs sWords) (defBody sWords) (defScope sWords) .none kV33 dc33 pm33 an33 cd33 ct33), sl33⟩) (c33 : PySem.W.codeIn K cd33 "_law_words" = true) (k33 : PySem.W.keepIn K (.ref f33) = true)
    (a34 : PySem.W.nsIn K mainGlobals "_law_same" = some (some (.ref f34))) (l34 : K.lookup f34 = some ⟨oc34, od34, .func (PySem.W.fnOf "_law_same" "_law_same" (defArgs sSame) (defBody sSame) (defScope sSame) .none kV34 dc34 pm34 an34 cd34 ct34), sl34⟩) (c34 : PySem.W.codeIn K cd34 "_law_same" = true) (k34 : PySem.W.keepIn K (.ref f34) = true)
    (a35 : PySem.W.nsIn K mainGlobals "_law_thinned" = some (some (.ref f35))) (l35 : K.lookup f35 = some ⟨oc35, od35, .func (PySem.W.fnOf "_law_thinned" "_law_thinned" (defArgs sThinned) (defBody sThinned) (defScope sThinned) .none kV35 dc35 pm35 an35 cd35 ct35), sl35⟩) (c35 : PySem.W.codeIn K cd35 "_law_thinned" = true) (k35 : PySem.W.keepIn K (.ref f35) = true)
    (a36 : PySem.W.nsIn K mainGlobals "_law_fine_stand" = some (some (.ref f36))) (l36 : K.lookup f36 = some ⟨oc36, od36, .func (PySem.W.fnOf "_law_fine_stand" "_law_fine_stand" (defArgs sFine) (defBody sFine) (defScope sFine) .none kV36 dc36 pm36 an36 cd36 ct36), sl36⟩) (c36 : PySem.W.codeIn K cd36 "_law_fine_stand" = true) (k36 : PySem.W.keepIn K (.ref f36) = true)
    (a37 : PySem.W.nsIn K mainGlobals "_law_any_stand" = some (some (.ref f37))) (l37 : K.lookup f37 = some ⟨oc37, od37, .func (PySem.W.fnOf "_law_any_stand" "_law_any_stand" (defArgs sAny) (defBody sAny) (defScope sAny) .none kV37 dc37 pm37 an37 cd37 ct37), sl37⟩) (c37 : PySem.W.codeIn K cd37 "_law_any_stand" = true) (k37 : PySem.W.keepIn K (.ref f37) = true)
    (a38 : PySem.W.nsIn K mainGlobals "_law_odd" = some (some (.ref f38))) (l38 : K.lookup f38 = some ⟨oc38, od38, .func (PySem.W.fnOf "_law_odd" "_law_odd" (defArgs sOdd) (defBody sOdd) (defScope sOdd) .none kV38 dc38 pm38 an38 cd38 ct38), sl38⟩) (c38 : PySem.W.codeIn K cd38 "_law_odd" = true) (k38 : PySem.W.keepIn K (.ref f38) = true)
    (a39 : PySem.W.nsIn K mainGlobals "_law_bent" = some (some (.ref f39))) (l39 : K.lookup f39 = some ⟨oc39, od39, .func (PySem.W.fnOf "_law_bent" "_law_bent" (defArgs sBent20) (defBody sBent20) (defScope sBent20) .none kV39 dc39 pm39 an39 cd39 ct39), sl39⟩) (c39 : PySem.W.codeIn K cd39 "_law_bent" = true) (k39 : PySem.W.keepIn K (.ref f39) = true)
    (a40 : PySem.W.nsIn K mainGlobals "_law_is_steps" = some (some (.ref f40))) (l40 : K.lookup f40 = some ⟨oc40, od40, .func (PySem.W.fnOf "_law_is_steps" "_law_is_steps" (defArgs sIsSteps) (defBody sIsSteps) (defScope sIsSteps) .none kV40 dc40 pm40 an40 cd40 ct40), sl40⟩) (c40 : PySem.W.codeIn K cd40 "_law_is_steps" = true) (k40 : PySem.W.keepIn K (.ref f40) = true)
    (a41 : PySem.W.nsIn K mainGlobals "_law_is_order" = some (some (.ref f41))) (l41 : K.lookup f41 = some ⟨oc41, od41, .func (PySem.W.fnOf "_law_is_order" "_law_is_order" (defArgs sIsOrd) (defBody sIsOrd) (defScope sIsOrd) .none kV41 dc41 pm41 an41 cd41 ct41), sl41⟩) (c41 : PySem.W.codeIn K cd41 "_law_is_order" = true) (k41 : PySem.W.keepIn K (.ref f41) = true)
    (a42 : PySem.W.nsIn K mainGlobals "_law_steps_on" = some (some (.ref f42))) (l42 : K.lookup f42 = some ⟨oc42, od42, .func (PySem.W.fnOf "_law_steps_on" "_law_steps_on" (defArgs sStOn) (defBody sStOn) (defScope sStOn) .none kV42 dc42 pm42 an42 cd42 ct42), sl42⟩) (c42 : PySem.W.codeIn K cd42 "_law_steps_on" = true) (k42 : PySem.W.keepIn K (.ref f42) = true)
    (a43 : PySem.W.nsIn K mainGlobals "_law_is_ring" = some (some (.ref f43))) (l43 : K.lookup f43 = some ⟨oc43, od43, .func (PySem.W.fnOf "_law_is_ring" "_law_is_ring" (defArgs sIsRing) (defBody sIsRing) (defScope sIsRing) .none kV43 dc43 pm43 an43 cd43 ct43), sl43⟩) (c43 : PySem.W.codeIn K cd43 "_law_is_ring" = true) (k43 : PySem.W.keepIn K (.ref f43) = true)
    (a44 : PySem.W.nsIn K mainGlobals "_law_is_chain" = some (some (.ref f44))) (l44 : K.lookup f44 = some ⟨oc44, od44, .func (PySem.W.fnOf "_law_is_chain" "_law_is_chain" (defArgs sIsCh) (defBody sIsCh) (defScope sIsCh) .none kV44 dc44 pm44 an44 cd44 ct44), sl44⟩) (c44 : PySem.W.codeIn K cd44 "_law_is_chain" = true) (k44 : PySem.W.keepIn K (.ref f44) = true)
    (a45 : PySem.W.nsIn K mainGlobals "_law_some_chain" = some (some (.ref f45))) (l45 : K.lookup f45 = some ⟨oc45, od45, .func (PySem.W.fnOf "_law_some_chain" "_law_some_chain" (defArgs sSomeCh) (defBody sSomeCh) (defScope sSomeCh) .none kV45 dc45 pm45 an45 cd45 ct45), sl45⟩) (c45 : PySem.W.codeIn K cd45 "_law_some_chain" = true) (k45 : PySem.W.keepIn K (.ref f45) = true)
    (a46 : PySem.W.nsIn K mainGlobals "_law_seen_right" = some (some (.ref f46))) (l46 : K.lookup f46 = some ⟨oc46, od46, .func (PySem.W.fnOf "_law_seen_right" "_law_seen_right" (defArgs sSeR) (defBody sSeR) (defScope sSeR) .none kV46 dc46 pm46 an46 cd46 ct46), sl46⟩) (c46 : PySem.W.codeIn K cd46 "_law_seen_right" = true) (k46 : PySem.W.keepIn K (.ref f46) = true)
    (a47 : PySem.W.nsIn K mainGlobals "_law_right" = some (some (.ref f47))) (l47 : K.lookup f47 = some ⟨oc47, od47, .func (PySem.W.fnOf "_law_right" "_law_right" (defArgs sRight) (defBody sRight) (defScope sRight) .none kV47 dc47 pm47 an47 cd47 ct47), sl47⟩) (c47 : PySem.W.codeIn K cd47 "_law_right" = true) (k47 : PySem.W.keepIn K (.ref f47) = true)
    (a48 : PySem.W.nsIn K mainGlobals "law" = some (some (.ref f48))) (l48 : K.lookup f48 = some ⟨oc48, od48, .func (PySem.W.fnOf "law" "law" (defArgs sLaw) (defBody sLaw) (defScope sLaw) .none kV48 dc48 pm48 an48 cd48 ct48), sl48⟩) (c48 : PySem.W.codeIn K cd48 "law" = true) (k48 : PySem.W.keepIn K (.ref f48) = true)
    {tq1 : Tok} (q1 : PySem.W.nsIn K mainGlobals "LONGEST_NAME" = some (some (.int 8 tq1)))
    (z1 : PySem.W.nsIn K mainGlobals "len" = some none)
    (z2 : PySem.W.nsIn K mainGlobals "abs" = some none)
    (z3 : PySem.W.nsIn K mainGlobals "int" = some none)
    (z4 : PySem.W.nsIn K mainGlobals "list" = some none)
    (z5 : PySem.W.nsIn K mainGlobals "tuple" = some none)
    (z6 : PySem.W.nsIn K mainGlobals "enumerate" = some none)
    (z7 : PySem.W.nsIn K mainGlobals "range" = some none)
    (z8 : PySem.W.nsIn K mainGlobals "min" = some none)
    (z9 : PySem.W.nsIn K mainGlobals "max" = some none)
    (z10 : PySem.W.nsIn K mainGlobals "sorted" = some none)
    (z11 : PySem.W.nsIn K mainGlobals "isinstance" = some none)
    (z12 : PySem.W.nsIn K mainGlobals "zip" = some none)
    (z13 : PySem.W.nsIn K mainGlobals "all" = some none)
    (z14 : PySem.W.nsIn K mainGlobals "str" = some none)
    (z15 : PySem.W.nsIn K mainGlobals "bool" = some none)
    (z16 : PySem.W.nsIn K mainGlobals "any" = some none)
    (z17 : PySem.W.nsIn K mainGlobals "repr" = some none)
    (z18 : PySem.W.nsIn K mainGlobals "set" = some none)
    (z19 : PySem.W.nsIn K mainGlobals "sum" = some none)
    (z20 : PySem.W.nsIn K mainGlobals "reversed" = some none)
    (z21 : PySem.W.nsIn K mainGlobals "dict" = some none)
    : ∃ fd : FuncData, (∀ (s : Shared) (v : Value), BindsTo s fd ⟨[v], []⟩ [("_law_script", v)]) ∧ ∀ base : Heap, K.In base → base.Ns mainGlobals mg → FnOk l.prog w K mg base CX0 9 fa fd ["_law_script"] (spLaw K) := by
  have e := hfa.symm.trans (PySem.W.mg_of XK G a48)
  cases e
  have FIn := fun_mk (st := sIsName) l1 c1 k1
  have gIn := PySem.W.mg_of XK G a1
  have bIn := FIn.binds (ps := ["thing"]) fun _ _ _ _ _ _ us hl => match us, hl with | [_], _ => rfl
  have FRw := fun_mk (st := sIsRow) l2 c2 k2
  have gRw := PySem.W.mg_of XK G a2
  have bRw := FRw.binds (ps := ["thing"]) fun _ _ _ _ _ _ us hl => match us, hl with | [_], _ => rfl
  have FBo := fun_mk (st := sBoth) l3 c3 k3
  have gBo := PySem.W.mg_of XK G a3
  have bBo := FBo.binds (ps := ["friends"]) fun _ _ _ _ _ _ us hl => match us, hl with | [_], _ => rfl
  have FL := fun_mk (st := sLfp) l4 c4 k4
  have gL := PySem.W.mg_of XK G a4
  have bL := FL.binds (ps := ["known", "row", "who"]) fun _ _ _ _ _ _ us hl => match us, hl with | [_, _, _], _ => rfl
  have FBw := fun_mk (st := sBarW) l5 c5 k5
  have gBw := PySem.W.mg_of XK G a5
  have bBw := FBw.binds (ps := ["known", "row", "one", "other"]) fun _ _ _ _ _ _ us hl => match us, hl with | [_, _, _, _], _ => rfl
  have FHp := fun_mk (st := sHostP) l6 c6 k6
  have gHp := PySem.W.mg_of XK G a6
  have bHp := FHp.binds (ps := ["known", "row", "who"]) fun _ _ _ _ _ _ us hl => match us, hl with | [_, _, _], _ => rfl
  have FCp := fun_mk (st := sComingP) l7 c7 k7
  have gCp := PySem.W.mg_of XK G a7
  have bCp := FCp.binds (ps := ["known", "row", "who"]) fun _ _ _ _ _ _ us hl => match us, hl with | [_, _, _], _ => rfl
  have FSn := fun_mk (st := sStood) l8 c8 k8
  have gSn := PySem.W.mg_of XK G a8
  have bSn := FSn.binds (ps := ["known", "row", "who"]) fun _ _ _ _ _ _ us hl => match us, hl with | [_, _, _], _ => rfl
  have FRo := fun_mk (st := sRowOf) l9 c9 k9
  have gRo := PySem.W.mg_of XK G a9
  have bRo := FRo.binds (ps := ["friends", "order"]) fun _ _ _ _ _ _ us hl => match us, hl with | [_, _], _ => rfl
  have FSh := fun_mk (st := sShowsO) l10 c10 k10
  have gSh := PySem.W.mg_of XK G a10
  have bSh := FSh.binds (ps := ["friends", "row", "thing"]) fun _ _ _ _ _ _ us hl => match us, hl with | [_, _, _], _ => rfl
  have FLk := fun_mk (st := sIsLink) l11 c11 k11
  have gLk := PySem.W.mg_of XK G a11
  have bLk := FLk.binds (ps := ["thing"]) fun _ _ _ _ _ _ us hl => match us, hl with | [_], _ => rfl
  have FAl := fun_mk (st := sAreLinks) l12 c12 k12
  have gAl := PySem.W.mg_of XK G a12
  have bAl := FAl.binds (ps := ["thing"]) fun _ _ _ _ _ _ us hl => match us, hl with | [_], _ => rfl
  have FEb := fun_mk (st := sEachB) l13 c13 k13
  have gEb := PySem.W.mg_of XK G a13
  have bEb := FEb.binds (ps := ["friends", "row", "links", "last"]) fun _ _ _ _ _ _ us hl => match us, hl with | [_, _, _, _], _ => rfl
  have FSr := fun_mk (st := sShowsR) l14 c14 k14
  have gSr := PySem.W.mg_of XK G a14
  have bSr := FSr.binds (ps := ["friends", "row", "thing"]) fun _ _ _ _ _ _ us hl => match us, hl with | [_, _, _], _ => rfl
  have FSc := fun_mk (st := sShowsC) l15 c15 k15
  have gSc := PySem.W.mg_of XK G a15
  have bSc := FSc.binds (ps := ["friends", "row", "one", "other", "thing"]) fun _ _ _ _ _ _ us hl => match us, hl with | [_, _, _, _, _], _ => rfl
  have FLa := fun_mk (st := sLooseAt) l16 c16 k16
  have gLa := PySem.W.mg_of XK G a16
  have bLa := FLa.binds (ps := ["known", "row", "place"]) fun _ _ _ _ _ _ us hl => match us, hl with | [_, _, _], _ => rfl
  have FHl := fun_mk (st := sHind) l17 c17 k17
  have gHl := PySem.W.mg_of XK G a17
  have bHl := FHl.binds (ps := ["known", "row", "but"]) fun _ _ _ _ _ _ us hl => match us, hl with | [_, _, _], _ => rfl
  have FGs := fun_mk (st := sStayed) l18 c18 k18
  have gGs := PySem.W.mg_of XK G a18
  have bGs := FGs.binds (ps := ["known", "row", "but"]) fun _ _ _ _ _ _ us hl => match us, hl with | [_, _, _], _ => rfl
  have FGl := fun_mk (st := sGone) l19 c19 k19
  have gGl := PySem.W.mg_of XK G a19
  have bGl := FGl.binds (ps := ["friends", "row", "but"]) fun _ _ _ _ _ _ us hl => match us, hl with | [_, _, _], _ => rfl
  have FNb := fun_mk (st := sNextB) l20 c20 k20
  have gNb := PySem.W.mg_of XK G a20
  have bNb := FNb.binds (ps := ["known", "row", "who", "left"]) fun _ _ _ _ _ _ us hl => match us, hl with | [_, _, _, _], _ => rfl
  have FRa := fun_mk (st := sRingA) l21 c21 k21
  have gRa := PySem.W.mg_of XK G a21
  have bRa := FRa.binds (ps := ["friends", "row", "left"]) fun _ _ _ _ _ _ us hl => match us, hl with | [_, _, _], _ => rfl
  have FOo := fun_mk (st := sOrderOf) l22 c22 k22
  have gOo := PySem.W.mg_of XK G a22
  have bOo := FOo.binds (ps := ["friends", "row"]) fun _ _ _ _ _ _ us hl => match us, hl with | [_, _], _ => rfl
  have FX := fun_mk (st := sBox) l23 c23 k23
  have gX := PySem.W.mg_of XK G a23
  have bX := FX.binds (ps := ["_law_cells_here", "_law_k"]) fun _ _ _ _ _ _ us hl => match us, hl with | [_, _], _ => rfl
  have FT := fun_mk (st := sTake) l24 c24 k24
  have gT := PySem.W.mg_of XK G a24
  have bT := FT.binds (ps := ["_law_box_here", "_law_many"]) fun _ _ _ _ _ _ us hl => match us, hl with | [_, _], _ => rfl
  have FC := fun_mk (st := sCells) l25 c25 k25
  have gC := PySem.W.mg_of XK G a25
  have bC := FC.binds (ps := ["_law_script", "_law_utmost"]) fun _ _ _ _ _ _ us hl => match us, hl with | [_, _], _ => rfl
  have FN := fun_mk (st := sNames) l26 c26 k26
  have gN := PySem.W.mg_of XK G a26
  have bN := FN.binds (ps := ["_law_box_here", "_law_many"]) fun _ _ _ _ _ _ us hl => match us, hl with | [_, _], _ => rfl
  have FP := fun_mk (st := sPals) l27 c27 k27
  have gP := PySem.W.mg_of XK G a27
  have bP := FP.binds (ps := ["_law_box_here", "_law_pool"]) fun _ _ _ _ _ _ us hl => match us, hl with | [_, _], _ => rfl
  have FA := fun_mk (st := sAre) l28 c28 k28
  have gA := PySem.W.mg_of XK G a28
  have bA := FA.binds (ps := ["_law_pals_here", "_law_mine", "_law_its"]) fun _ _ _ _ _ _ us hl => match us, hl with | [_, _, _], _ => rfl
  have FCo := fun_mk (st := sCome) l29 c29 k29
  have gCo := PySem.W.mg_of XK G a29
  have bCo := FCo.binds (ps := ["_law_pals_here", "_law_stand", "_law_name"]) fun _ _ _ _ _ _ us hl => match us, hl with | [_, _, _], _ => rfl
  have FS := fun_mk (st := sStandOf) l30 c30 k30
  have gS := PySem.W.mg_of XK G a30
  have bS := FS.binds (ps := ["_law_pals_here", "_law_some"]) fun _ _ _ _ _ _ us hl => match us, hl with | [_, _], _ => rfl
  have FW := fun_mk (st := sStrewn) l31 c31 k31
  have gW := PySem.W.mg_of XK G a31
  have bW := FW.binds (ps := ["_law_box_here", "_law_some"]) fun _ _ _ _ _ _ us hl => match us, hl with | [_, _], _ => rfl
  have FHo := fun_mk (st := sHost) l32 c32 k32
  have gHo := PySem.W.mg_of XK G a32
  have bHo := FHo.binds (ps := ["_law_pals_here", "_law_stand", "_law_name"]) fun _ _ _ _ _ _ us hl => match us, hl with | [_, _, _], _ => rfl
  have FWo := fun_mk (st := sWords) l33 c33 k33
  have gWo := PySem.W.mg_of XK G a33
  have bWo := FWo.binds (ps := ["_law_pals_here", "_law_stand", "_law_mine", "_law_its"]) fun _ _ _ _ _ _ us hl => match us, hl with | [_, _, _, _], _ => rfl
  have FSa := fun_mk (st := sSame) l34 c34 k34
  have gSa := PySem.W.mg_of XK G a34
  have bSa := FSa.binds (ps := ["_law_found", "_law_due"]) fun _ _ _ _ _ _ us hl => match us, hl with | [_, _], _ => rfl
  have FH := fun_mk (st := sThinned) l35 c35 k35
  have gH := PySem.W.mg_of XK G a35
  have bH := FH.binds (ps := ["_law_some", "_law_name"]) fun _ _ _ _ _ _ us hl => match us, hl with | [_, _], _ => rfl
  have FFi := fun_mk (st := sFine) l36 c36 k36
  have gFi := PySem.W.mg_of XK G a36
  have bFi := FFi.binds (ps := ["_law_box_here", "_law_pals_here", "_law_pool"]) fun _ _ _ _ _ _ us hl => match us, hl with | [_, _, _], _ => rfl
  have FY := fun_mk (st := sAny) l37 c37 k37
  have gY := PySem.W.mg_of XK G a37
  have bY := FY.binds (ps := ["_law_box_here", "_law_pals_here", "_law_pool"]) fun _ _ _ _ _ _ us hl => match us, hl with | [_, _, _], _ => rfl
  have FOdd := fun_mk (st := sOdd) l38 c38 k38
  have gOdd := PySem.W.mg_of XK G a38
  have bOdd := FOdd.binds (ps := ["_law_box_here", "_law_matter"]) fun _ _ _ _ _ _ us hl => match us, hl with | [_, _], _ => rfl
  have FBent20 := fun_mk (st := sBent20) l39 c39 k39
  have gBent20 := PySem.W.mg_of XK G a39
  have bBent20 := FBent20.binds (ps := ["_law_box_here", "_law_matter"]) fun _ _ _ _ _ _ us hl => match us, hl with | [_, _], _ => rfl
  have FIsStp := fun_mk (st := sIsSteps) l40 c40 k40
  have gIsStp := PySem.W.mg_of XK G a40
  have bIsStp := FIsStp.binds (ps := ["_law_pals_here", "_law_stand", "_law_matter"]) fun _ _ _ _ _ _ us hl => match us, hl with | [_, _, _], _ => rfl
  have FIsOrd := fun_mk (st := sIsOrd) l41 c41 k41
  have gIsOrd := PySem.W.mg_of XK G a41
  have bIsOrd := FIsOrd.binds (ps := ["_law_pals_here", "_law_stand", "_law_matter"]) fun _ _ _ _ _ _ us hl => match us, hl with | [_, _, _], _ => rfl
  have FStOn := fun_mk (st := sStOn) l42 c42 k42
  have gStOn := PySem.W.mg_of XK G a42
  have bStOn := FStOn.binds (ps := ["_law_pals_here", "_law_stand", "_law_matter", "_law_last"]) fun _ _ _ _ _ _ us hl => match us, hl with | [_, _, _, _], _ => rfl
  have FIr := fun_mk (st := sIsRing) l43 c43 k43
  have gIr := PySem.W.mg_of XK G a43
  have bIr := FIr.binds (ps := ["_law_pals_here", "_law_stand", "_law_matter"]) fun _ _ _ _ _ _ us hl => match us, hl with | [_, _, _], _ => rfl
  have FIsCh := fun_mk (st := sIsCh) l44 c44 k44
  have gIsCh := PySem.W.mg_of XK G a44
  have bIsCh := FIsCh.binds (ps := ["_law_pals_here", "_law_stand", "_law_mine", "_law_its", "_law_matter"]) fun _ _ _ _ _ _ us hl => match us, hl with | [_, _, _, _, _], _ => rfl
  have FSomeCh := fun_mk (st := sSomeCh) l45 c45 k45
  have gSomeCh := PySem.W.mg_of XK G a45
  have bSomeCh := FSomeCh.binds (ps := ["_law_box_here", "_law_pals_here", "_law_stand"]) fun _ _ _ _ _ _ us hl => match us, hl with | [_, _, _], _ => rfl
  have FSeR := fun_mk (st := sSeR) l46 c46 k46
  have gSeR := PySem.W.mg_of XK G a46
  have bSeR := FSeR.binds (ps := ["_law_box_here", "_law_pals_here", "_law_stand", "_law_matter"]) fun _ _ _ _ _ _ us hl => match us, hl with | [_, _, _, _], _ => rfl
  have FR := fun_mk (st := sRight) l47 c47 k47
  have gR := PySem.W.mg_of XK G a47
  have bR := FR.binds (ps := ["_law_box_here"]) fun _ _ _ _ _ _ us hl => match us, hl with | [_], _ => rfl
  have FLaw := fun_mk (st := sLaw) l48 c48 k48
  have gLaw := PySem.W.mg_of XK G a48
  have bLaw := FLaw.binds (ps := ["_law_script"]) fun _ _ _ _ _ _ us hl => match us, hl with | [_], _ => rfl
  have B : Blt mg := ⟨PySem.W.mg_none_of XK G z1, PySem.W.mg_none_of XK G z2, PySem.W.mg_none_of XK G z3, PySem.W.mg_none_of XK G z4, PySem.W.mg_none_of XK G z5, PySem.W.mg_none_of XK G z6, PySem.W.mg_none_of XK G z7, PySem.W.mg_none_of XK G z8, PySem.W.mg_none_of XK G z9, PySem.W.mg_none_of XK G z10, PySem.W.mg_none_of XK G z11, PySem.W.mg_none_of XK G z12, PySem.W.mg_none_of XK G z13, PySem.W.mg_none_of XK G z14, PySem.W.mg_none_of XK G z15, PySem.W.mg_none_of XK G z16, PySem.W.mg_none_of XK G z17, PySem.W.mg_none_of XK G z18, PySem.W.mg_none_of XK G z19, PySem.W.mg_none_of XK G z20, PySem.W.mg_none_of XK G z21⟩
  have hLONGEST_NAME : ∃ u, mg "LONGEST_NAME" = some u ∧ RelV (.int 8) u := ⟨_, PySem.W.mg_of XK G q1, ⟨_, rfl⟩⟩
  refine ⟨PySem.W.fnOf "law" "law" (defArgs sLaw) (defBody sLaw) (defScope sLaw) .none kV48 dc48 pm48 an48 cd48 ct48, fun s v => .of_eq rfl, fun base _ _ => ?_⟩
  have cIn : Cal l.prog w K mg base 1 "is_name" _ spIsNmD := ⟨_, _, ok_isNmD B hLONGEST_NAME FIn, gIn, FIn.kp, bIn⟩
  have cRw : Cal l.prog w K mg base 2 "is_row" _ spRowD := ⟨_, _, ok_rowD B cIn FRw, gRw, FRw.kp, bRw⟩
  have cBo : Cal l.prog w K mg base 1 "both_ways" _ spBoth := ⟨_, _, ok_both FBo, gBo, FBo.kp, bBo⟩
  have cL : Cal l.prog w K mg base 1 "last_friend_place" _ spLfp := ⟨_, _, ok_lfp B FL, gL, FL.kp, bL⟩
  have cBw : Cal l.prog w K mg base 2 "bar_words" _ spBarW := ⟨_, _, (ok_barWX cL FBw).imp (fun _ _ _ _ h => barW_X h), gBw, FBw.kp, bBw⟩
  have cHp : Cal l.prog w K mg base 2 "host_place" _ spHostP := ⟨_, _, ok_hostP cL FHp, gHp, FHp.kp, bHp⟩
  have cCp : Cal l.prog w K mg base 3 "coming_place" _ spComingP := ⟨_, _, ok_comingP B cHp FCp, gCp, FCp.kp, bCp⟩
  have cSn : Cal l.prog w K mg base 4 "stood_in" _ spStood := ⟨_, _, ok_stood B cCp FSn, gSn, FSn.kp, bSn⟩
  have cRo : Cal l.prog w K mg base 5 "row_of" _ spRowOf := ⟨_, _, ok_rowOf cBo cSn FRo, gRo, FRo.kp, bRo⟩
  have cLa : Cal l.prog w K mg base 2 "loose_at" _ spLooseAt := ⟨_, _, ok_looseAt B cL FLa, gLa, FLa.kp, bLa⟩
  have cHl : Cal l.prog w K mg base 3 "hindmost_loose" _ (spHind K) := ⟨_, _, ok_hind B cLa FHl, gHl, FHl.kp, bHl⟩
  have cGs : Cal l.prog w K mg base 4 "gone_and_stayed" _ (spStayed K) := ⟨_, _, ok_stayed B cHl FGs, gGs, FGs.kp, bGs⟩
  have cGl : Cal l.prog w K mg base 5 "gone_and_left" _ (spGone K) := ⟨_, _, ok_gone cBo cGs FGl, gGl, FGl.kp, bGl⟩
  have cNb : Cal l.prog w K mg base 3 "next_barred" _ spNextB := ⟨_, _, ok_nextB cBw FNb, gNb, FNb.kp, bNb⟩
  have cRa : Cal l.prog w K mg base 4 "ring_among" _ spRingA := ⟨_, _, ok_ringA B cBo cNb FRa, gRa, FRa.kp, bRa⟩
  have cOo : Cal l.prog w K mg base 6 "order_of" _ spOrderOf := ⟨_, _, ok_orderOf cGl cRa FOo, gOo, FOo.kp, bOo⟩
  have cX : Cal l.prog w K mg base 1 "_law_box" _ spBox := ⟨_, _, ok_box B FX, gX, FX.kp, bX⟩
  have cT : Cal l.prog w K mg base 1 "_law_take" _ spTake := ⟨_, _, ok_take FT, gT, FT.kp, bT⟩
  have cC : Cal l.prog w K mg base 1 "_law_cells" _ (spCells K) := ⟨_, _, ok_cells B FC, gC, FC.kp, bC⟩
  have cN : Cal l.prog w K mg base 2 "_law_names" _ spNames := ⟨_, _, ok_names B cT FN, gN, FN.kp, bN⟩
  have cP : Cal l.prog w K mg base 2 "_law_pals" _ spPals := ⟨_, _, ok_pals B cT FP, gP, FP.kp, bP⟩
  have cA : Cal l.prog w K mg base 1 "_law_are" _ spAre := ⟨_, _, ok_are B FA, gA, FA.kp, bA⟩
  have cCo : Cal l.prog w K mg base 2 "_law_come" _ spCome := ⟨_, _, ok_come B cA FCo, gCo, FCo.kp, bCo⟩
  have cS : Cal l.prog w K mg base 3 "_law_stand_of" _ spStandOf := ⟨_, _, ok_standOf cCo FS, gS, FS.kp, bS⟩
  have cW : Cal l.prog w K mg base 2 "_law_strewn" _ spStrewn := ⟨_, _, ok_strewn B cT FW, gW, FW.kp, bW⟩
  have cHo : Cal l.prog w K mg base 2 "_law_host" _ spHost := ⟨_, _, ok_host cA FHo, gHo, FHo.kp, bHo⟩
  have cWo : Cal l.prog w K mg base 3 "_law_words" _ spWords := ⟨_, _, ok_words cA cHo FWo, gWo, FWo.kp, bWo⟩
  have cSa : Cal l.prog w K mg base 2 "_law_same" _ (spSame 2) := ⟨_, _, ok_same B FSa gSa bSa 2, gSa, FSa.kp, bSa⟩
  have cH : Cal l.prog w K mg base 1 "_law_thinned" _ spThinned := ⟨_, _, ok_thinned B FH, gH, FH.kp, bH⟩
  have cFi : Cal l.prog w K mg base 4 "_law_fine_stand" _ spFine := ⟨_, _, ok_fine cS cW FFi, gFi, FFi.kp, bFi⟩
  have cY : Cal l.prog w K mg base 5 "_law_any_stand" _ spAny := ⟨_, _, ok_any B cT cFi cW cH FY, gY, FY.kp, bY⟩
  have cIr : Cal l.prog w K mg base 5 "_law_is_ring" _ spRgX := ⟨_, _, ok_isRgX B (⟨_, _, ok_isSteps B FIsStp, gIsStp, FIsStp.kp, bIsStp⟩ : Cal l.prog w K mg base 1 "_law_is_steps" _ spStepsX) (⟨_, _, ok_stOn B cWo FStOn, gStOn, FStOn.kp, bStOn⟩ : Cal l.prog w K mg base 4 "_law_steps_on" _ spStOnX) FIr, gIr, FIr.kp, bIr⟩
  have cBwX0 : Cal l.prog w K mg base 2 "bar_words" _ spBarWX := ⟨_, _, ok_barWX cL FBw, gBw, FBw.kp, bBw⟩
  have cLk0 : Cal l.prog w K mg base 2 "is_link" _ spLinkD := ⟨_, _, ok_isLinkD B cIn FLk, gLk, FLk.kp, bLk⟩
  have cAl0 : Cal l.prog w K mg base 3 "are_links" _ spLinksD := ⟨_, _, ok_areLinksD B cLk0 FAl, gAl, FAl.kp, bAl⟩
  have cEb0 : Cal l.prog w K mg base 3 "each_bars_the_next" _ spEachX := ⟨_, _, ok_eachX B cBwX0 cBo FEb, gEb, FEb.kp, bEb⟩
  have cSh0 : CalR l.prog w K mg base 6 "shows_order" ["friends", "row", "thing"] ["thing", "row", "friends"] spShOX := ⟨_, _, ok_showsOX B cRw cRo FSh, gSh, FSh.kp, bSh, kbinds_rev (ps := ["friends", "row", "thing"]) (ks := ["thing", "row", "friends"]) FSh (by simp) fun _ _ _ _ _ _ ws hl => match ws, hl with | [_, _, _], _ => rfl⟩
  have cSr0 : CalR l.prog w K mg base 4 "shows_ring" ["friends", "row", "thing"] ["thing", "row", "friends"] spShRX := ⟨_, _, ok_showsRX B cAl0 cEb0 FSr, gSr, FSr.kp, bSr, kbinds_rev (ps := ["friends", "row", "thing"]) (ks := ["thing", "row", "friends"]) FSr (by simp) fun _ _ _ _ _ _ ws hl => match ws, hl with | [_, _, _], _ => rfl⟩
  have cSc0 : CalR l.prog w K mg base 4 "shows_chain" ["friends", "row", "one", "other", "thing"] ["thing", "other", "one", "row", "friends"] spShCX := ⟨_, _, ok_showsCX B cAl0 cEb0 FSc, gSc, FSc.kp, bSc, kbinds_rev (ps := ["friends", "row", "one", "other", "thing"]) (ks := ["thing", "other", "one", "row", "friends"]) FSc (by simp) fun _ _ _ _ _ _ ws hl => match ws, hl with | [_, _, _, _, _], _ => rfl⟩
  have cIs0 : Cal l.prog w K mg base 1 "_law_is_steps" _ spStepsX := ⟨_, _, ok_isSteps B FIsStp, gIsStp, FIsStp.kp, bIsStp⟩
  have cOn0 : Cal l.prog w K mg base 4 "_law_steps_on" _ spStOnX := ⟨_, _, ok_stOn B cWo FStOn, gStOn, FStOn.kp, bStOn⟩
  have cIo0 : Cal l.prog w K mg base 4 "_law_is_order" _ spOrdX := ⟨_, _, ok_isOrd B cS FIsOrd, gIsOrd, FIsOrd.kp, bIsOrd⟩
  have cCh0 : Cal l.prog w K mg base 5 "_law_is_chain" _ spChX := ⟨_, _, ok_isChX B cIs0 cOn0 FIsCh, gIsCh, FIsCh.kp, bIsCh⟩
  have cSoC0 : Cal l.prog w K mg base 4 "_law_some_chain" _ spSomeCh := ⟨_, _, ok_someCh B cT cWo FSomeCh, gSomeCh, FSomeCh.kp, bSomeCh⟩
  have cSeR0 : Cal l.prog w K mg base 7 "_law_seen_right" _ spSeenX := ⟨_, _, ok_seenX B cCh0 cIo0 cIr cSa cT cSc0.cal cSh0.cal cSr0.cal FSeR, gSeR, FSeR.kp, bSeR⟩
  have cOdd0 : Cal l.prog w K mg base 2 "_law_odd" _ spOddO := ⟨_, _, ok_odd B cT FOdd, gOdd, FOdd.kp, bOdd⟩
  have cBe : Cal l.prog w K mg base 6 "_law_bent" _ (spBentO 4) := ⟨_, _, ok_bentO B cOdd0 cT FBent20 gBent20 bBent20 4, gBent20, FBent20.kp, bBent20⟩
  have cR : Cal l.prog w K mg base 8 "_law_right" _ spRight := ⟨_, _, ok_right B cY cBe cCh0 cN cP cSa cSeR0 cSoC0 cW cT cOo cSc0 cSh0 cSr0 FR, gR, FR.kp, bR⟩
  exact ok_law B cC cX cR FLaw
end Lk
open PySem PySem.W PyProof.Rows
set_option maxRecDepth 100000 in
set_option maxHeartbeats 0 in
theorem PySem.Challenge.cw_letinrow_k11_orders_rings_chains_shown_holds : PySem.Challenge.rw_letinrow_k11_orders_rings_chains_shown.Holds := by
  w_on; o_law; k_head; (case hw => w_witness2)
  k_fill
  refine Lk.walk_law (l := PySem.Challenge.rw_letinrow_k11_orders_rings_chains_shown) (n := 63) (k := 9) (x := "_law_script") (sp := fun w => Lk.spLaw _) rfl (by decide) rfl ⟨rfl, by decide, by decide⟩ (fun w h Y => PySem.W.kIn_of Y) ?F (fun _ _ a ns hl hS => ⟨a, ns, rfl, hS, hl, fun _ => rfl⟩)
  case F =>
    intro w mg fa h KX G hmg
    refine' Lk.all_mk KX G hmg ?a1 ?l1 ?c1 ?k1 ?a2 ?l2 ?c2 ?k2 ?a3 ?l3 ?c3 ?k3 ?a4 ?l4 ?c4 ?k4 ?a5 ?l5 ?c5 ?k5 ?a6 ?l6 ?c6 ?k6 ?a7 ?l7 ?c7 ?k7 ?a8 ?l8 ?c8 ?k8 ?a9 ?l9 ?c9 ?k9 ?a10 ?l10 ?c10 ?k10 ?a11 ?l11 ?c11 ?k11 ?a12 ?l12 ?c12 ?k12 ?a13 ?l13 ?c13 ?k13 ?a14 ?l14 ?c14 ?k14 ?a15 ?l15 ?c15 ?k15 ?a16 ?l16 ?c16 ?k16 ?a17 ?l17 ?c17 ?k17 ?a18 ?l18 ?c18 ?k18 ?a19 ?l19 ?c19 ?k19 ?a20 ?l20 ?c20 ?k20 ?a21 ?l21 ?c21 ?k21 ?a22 ?l22 ?c22 ?k22 ?a23 ?l23 ?c23 ?k23 ?a24 ?l24 ?c24 ?k24 ?a25 ?l25 ?c25 ?k25 ?a26 ?l26 ?c26 ?k26 ?a27 ?l27 ?c27 ?k27 ?a28 ?l28 ?c28 ?k28 ?a29 ?l29 ?c29 ?k29 ?a30 ?l30 ?c30 ?k30 ?a31 ?l31 ?c31 ?k31 ?a32 ?l32 ?c32 ?k32 ?a33 ?l33 ?c33 ?k33 ?a34 ?l34 ?c34 ?k34 ?a35 ?l35 ?c35 ?k35 ?a36 ?l36 ?c36 ?k36 ?a37 ?l37 ?c37 ?k37 ?a38 ?l38 ?c38 ?k38 ?a39 ?l39 ?c39 ?k39 ?a40 ?l40 ?c40 ?k40 ?a41 ?l41 ?c41 ?k41 ?a42 ?l42 ?c42 ?k42 ?a43 ?l43 ?c43 ?k43 ?a44 ?l44 ?c44 ?k44 ?a45 ?l45 ?c45 ?k45 ?a46 ?l46 ?c46 ?k46 ?a47 ?l47 ?c47 ?k47 ?a48 ?l48 ?c48 ?k48 ?q1 ?z1 ?z2 ?z3 ?z4 ?z5 ?z6 ?z7 ?z8 ?z9 ?z10 ?z11 ?z12 ?z13 ?z14 ?z15 ?z16 ?z17 ?z18 ?z19 ?z20 ?z21
    (case a1 => k_is); (case l1 => k_is); (case c1 => k_is); (case k1 => k_is)
    (case a2 => k_is); (case l2 => k_is); (case c2 => k_is); (case k2 => k_is)
    (case a3 => k_is); (case l3 => k_is); (case c3 => k_is); (case k3 => k_is)
    (case a4 => k_is); (case l4 => k_is); (case c4 => k_is); (case k4 => k_is)
    (case a5 => k_is); (case l5 => k_is); (case c5 => k_is); (case k5 => k_is)
    (case a6 => k_is); (case l6 => k_is); (case c6 => k_is); (case k6 => k_is)
    (case a7 => k_is); (case l7 => k_is); (case c7 => k_is); (case k7 => k_is)
    (case a8 => k_is); (case l8 => k_is); (case c8 => k_is); (case k8 => k_is)
    (case a9 => k_is); (case l9 => k_is); (case c9 => k_is); (case k9 => k_is)
    (case a10 => k_is); (case l10 => k_is); (case c10 => k_is); (case k10 => k_is)
    (case a11 => k_is); (case l11 => k_is); (case c11 => k_is); (case k11 => k_is)
    (case a12 => k_is); (case l12 => k_is); (case c12 => k_is); (case k12 => k_is)
    (case a13 => k_is); (case l13 => k_is); (case c13 => k_is); (case k13 => k_is)
    (case a14 => k_is); (case l14 => k_is); (case c14 => k_is); (case k14 => k_is)
    (case a15 => k_is); (case l15 => k_is); (case c15 => k_is); (case k15 => k_is)
    (case a16 => k_is); (case l16 => k_is); (case c16 => k_is); (case k16 => k_is)
    (case a17 => k_is); (case l17 => k_is); (case c17 => k_is); (case k17 => k_is)
    (case a18 => k_is); (case l18 => k_is); (case c18 => k_is); (case k18 => k_is)
    (case a19 => k_is); (case l19 => k_is); (case c19 => k_is); (case k19 => k_is)
    (case a20 => k_is); (case l20 => k_is); (case c20 => k_is); (case k20 => k_is)
    (case a21 => k_is); (case l21 => k_is); (case c21 => k_is); (case k21 => k_is)
    (case a22 => k_is); (case l22 => k_is); (case c22 => k_is); (case k22 => k_is)
    (case a23 => k_is); (case l23 => k_is); (case c23 => k_is); (case k23 => k_is)
    (case a24 => k_is); (case l24 => k_is); (case c24 => k_is); (case k24 => k_is)
    (case a25 => k_is); (case l25 => k_is); (case c25 => k_is); (case k25 => k_is)
    (case a26 => k_is); (case l26 => k_is); (case c26 => k_is); (case k26 => k_is)
    (case a27 => k_is); (case l27 => k_is); (case c27 => k_is); (case k27 => k_is)
    (case a28 => k_is); (case l28 => k_is); (case c28 => k_is); (case k28 => k_is)
    (case a29 => k_is); (case l29 => k_is); (case c29 => k_is); (case k29 => k_is)
    (case a30 => k_is); (case l30 => k_is); (case c30 => k_is); (case k30 => k_is)
    (case a31 => k_is); (case l31 => k_is); (case c31 => k_is); (case k31 => k_is)
    (case a32 => k_is); (case l32 => k_is); (case c32 => k_is); (case k32 => k_is)
    (case a33 => k_is); (case l33 => k_is); (case c33 => k_is); (case k33 => k_is)
    (case a34 => k_is); (case l34 => k_is); (case c34 => k_is); (case k34 => k_is)
    (case a35 => k_is); (case l35 => k_is); (case c35 => k_is); (case k35 => k_is)
    (case a36 => k_is); (case l36 => k_is); (case c36 => k_is); (case k36 => k_is)
    (case a37 => k_is); (case l37 => k_is); (case c37 => k_is); (case k37 => k_is)
    (case a38 => k_is); (case l38 => k_is); (case c38 => k_is); (case k38 => k_is)
    (case a39 => k_is); (case l39 => k_is); (case c39 => k_is); (case k39 => k_is)
    (case a40 => k_is); (case l40 => k_is); (case c40 => k_is); (case k40 => k_is)
    (case a41 => k_is); (case l41 => k_is); (case c41 => k_is); (case k41 => k_is)
    (case a42 => k_is); (case l42 => k_is); (case c42 => k_is); (case k42 => k_is)
    (case a43 => k_is); (case l43 => k_is); (case c43 => k_is); (case k43 => k_is)
    (case a44 => k_is); (case l44 => k_is); (case c44 => k_is); (case k44 => k_is)
    (case a45 => k_is); (case l45 => k_is); (case c45 => k_is); (case k45 => k_is)
    (case a46 => k_is); (case l46 => k_is); (case c46 => k_is); (case k46 => k_is)
    (case a47 => k_is); (case l47 => k_is); (case c47 => k_is); (case k47 => k_is)
    (case a48 => k_is); (case l48 => k_is); (case c48 => k_is); (case k48 => k_is)
    (case q1 => k_is); (case z1 => k_is); (case z2 => k_is); (case z3 => k_is)
    (case z4 => k_is); (case z5 => k_is); (case z6 => k_is); (case z7 => k_is)
    (case z8 => k_is); (case z9 => k_is); (case z10 => k_is); (case z11 => k_is)
    (case z12 => k_is); (case z13 => k_is); (case z14 => k_is); (case z15 => k_is)
    (case z16 => k_is); (case z17 => k_is); (case z18 => k_is); (case z19 => k_is)
    (case z20 => k_is); (case z21 => k_is)
