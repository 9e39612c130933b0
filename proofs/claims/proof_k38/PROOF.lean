import PyProof.Rows.All
import Wide.All
import OpenK.AllK
import Wide.FinOn
import HandS.ForMost
import HandS.Walk
import HandS.Deep
import HandS.Zip
import HandS.TupAny
import HandS.IsInst
import HandS.Strs
import HandS.More
import HandS.Flow
import HandS.Style
import HandS.NoneIn
import KE.SortData
import KE.GoesEnum
import KE.GoesMore
import HandS.Defaults
import HandS.WordsExc
import KE.KDictZip
import PyProof.EnumMake
import HandS.DictComp
import HandS.Iter
import HandS.MakeKwOnly
import HandS.TupMul
import PyProof.ReprLen
import HandS.ExcInit
import HandS.ExcOwn
import HandS.TryOnly
import HandS.FStr
import HandS.ExcIs
import HandS.ExcField
import KE.KExcInit
import KE.KTryMore
import HandS.Zip0
import PySem.Challenge.RW_letinrow_k38_lines_asked_by_names
set_option Elab.async false
set_option linter.all false
set_option maxRecDepth 100000
set_option maxHeartbeats 2000000
namespace Lk
open PySem PySem.Spec PyProof.Rows L2

/-! ### either of two rules -/
section
variable {X : Cx}
theorem pi_or2 {tg e : Expr} {t u : TI} (a : PI X tg e t) (b : PI X tg e u) : PI X tg e (fun σ H R => t σ H R ∨ u σ H R) :=
  ⟨fun pins s σ H R I h => h.elim (a.run pins s σ H R I) (b.run pins s σ H R I)⟩
theorem pg_or2 {tg : Expr} {t u : TG} (a : PG X tg t) (b : PG X tg u) : PG X tg (fun v σ H Q => t v σ H Q ∨ u v σ H Q) :=
  ⟨fun pins s σ H v x Q I r h => h.elim (a.run pins s σ H v x Q I r) (b.run pins s σ H v x Q I r)⟩
theorem sl_or2 {r r' : V → Option Int → Option Int → Hp → VK → Prop} (a : SlR X r) (b : SlR X r') : SlR X (fun x l h H Q => r x l h H Q ∨ r' x l h H Q) :=
  fun pins s σ H x v vl vu lo hi sl Q I rx hs pl pu h => h.elim (a pins s σ H x v vl vu lo hi sl Q I rx hs pl pu) (b pins s σ H x v vl vu lo hi sl Q I rx hs pl pu)
end

/-! ### what is known in between -/
section
variable {X : Cx}
def tMid (t : TE) : TE := fun σ H Q => ∃ M : V → Hp → Prop, t σ H M ∧ ∀ v H', M v H' → Q v H'
theorem pe_mid {e : Expr} {t : TE} (h : PE X e t) : PE X e (tMid t) :=
  ⟨fun pins s σ H Q I ⟨M, h1, h2⟩ => thn (h.run pins s σ H M I h1) fun u s1 ⟨v, H1, I1, r, q⟩ => ⟨v, H1, I1, r, h2 v H1 q⟩⟩
def tMidS (t : TS) : TS := fun D σ H => ∃ M : L2.St → Hp → Prop, t { D with nx := M } σ H ∧ ∀ σ' H', M σ' H' → D.nx σ' H'
theorem ps_mid {st : Stmt} {t : TS} (h : PS X st t) : PS X st (tMidS t) := by
  refine ⟨fun pins s σ H D I ⟨M, h1, h2⟩ => thn (h.run pins s σ H { D with nx := M } I h1) fun fl s1 q => ?_⟩
  cases fl with
  | next =>
    obtain ⟨σ', H', I', q'⟩ := q
    exact ⟨σ', H', I', h2 σ' H' q'⟩
  | brk => exact q
  | cont => exact q
  | ret u => exact q
end

/-! ### in, over a tuple of data -/
section
variable {X : Cx}
def rInT (K : PySem.W.Frag) : R2 := fun x y H Q => ∃ d ds, Dp K H x d ∧ Dp K H y (.tuple ds) ∧ SeqAt.shaped d = true ∧ SeqAt.shaped (.tuple ds) = true ∧ Q (.bl (ds.any fun z => PyData.eqv z d)) H
theorem op_inT (hu : X.A.units + 65 < cLine) : OpR X (compareOp .In) (rInT X.K) := by
  intro pins s σ H x y v u Q I rx ry h
  obtain ⟨d, ds, hd, he, sd, se, q⟩ := h
  obtain ⟨as, r1⟩ := Dp.reads I d x v hd rx
  obtain ⟨bs, r2⟩ := Dp.reads I (.tuple ds) y u he ry
  exact SeqAt.in_tuple_reads r2 r1 (SeqAt.canLay_of_shaped se) (SeqAt.canLay_of_shaped sd) (room_in_shaped sd hu) ⟨.bl _, H, I, rfl, q⟩
end

/-! ### room, where nobody writes a text of a thing around us -/
structure Room (k : Nat) (A : Around) : Prop where
  rm : L2.Room k A
  gd : A.guards = some []
theorem Room.mono {j k : Nat} {A : Around} (z : Room k A) (h : j ≤ k) : Room j A := ⟨z.rm.mono h, z.gd⟩
theorem Room.units {k : Nat} {A : Around} (z : Room k A) : A.units + 64 < cLine := z.rm.units
theorem Room.un {k : Nat} {A : Around} (z : Room k A) : A.units + 16 * k + 200 < cLine := z.rm.un
theorem Room.hd {k : Nat} {A : Around} (z : Room k A) : A.handled = none := z.rm.hd
theorem hu_of {A : Around} {k : Nat} (z : Room k A) : A.units + 1 < cLine := L2.hu_of z.rm
/-- a def's promise, asked for only there -/
structure FnOk (P : Program) (w : World) (K : PySem.W.Frag) (mg : Str → Option Value) (base : Heap) (CX : CXT) (k : Nat) (f : Addr) (fd : FuncData) (ps : List Str) (sp : Sp) : Prop where
  len : ∀ vs H Q E, sp vs H Q E → vs.length = ps.length
  run : ∀ (A : Around) (out : List Env) (s : Shared) (H : Hp) (ar : Args) (us : List Value) (vs : List V) (Q : VK) (E : XK), Room k A → Env0 P w K mg base A out s H → BindsTo s fd ar (ps.zip us) → Vals vs us → sp vs H Q E →
    codeAny (model P w) A (.call (.ref f) ar) (CR CX out P w H s Q E) s
section
variable {P : Program} {w : World} {K : PySem.W.Frag} {mg : Str → Option Value} {base : Heap} {CX : CXT} {k : Nat} {f : Addr} {fd : FuncData} {N ps : List Str} {sp : Sp}
theorem FnOk.mono {j : Nat} (F : FnOk P w K mg base CX j f fd ps sp) (h : j ≤ k) : FnOk P w K mg base CX k f fd ps sp := ⟨F.len, fun A out s H ar us vs Q E z => F.run A out s H ar us vs Q E (z.mono h)⟩
theorem FnOk.imp {sq : Sp} (F : FnOk P w K mg base CX k f fd ps sp) (h : ∀ vs H Q E, sq vs H Q E → sp vs H Q E) : FnOk P w K mg base CX k f fd ps sq :=
  ⟨fun vs H Q E z => F.len vs H Q E (h _ _ _ _ z), fun A out s H ar us vs Q E z e b v m => F.run A out s H ar us vs Q E z e b v (h _ _ _ _ m)⟩
/-- its body, by rules -/
theorem fok_of {name qual : Str} {params : Arguments} {body : List Stmt} {scope : Scope} {dV kV doc pm cdv ct oc : Value} {an od : Option Addr} {osl : Array (Option Value)}
    (lk : K.lookup f = some ⟨oc, od, .func (PySem.W.fnOf name qual params body scope dV kV doc pm an cdv ct), osl⟩) (hc : PySem.W.codeIn K cdv qual = true) (S : FnScope N ps scope) (hn : ∀ vs H Q E, sp vs H Q E → vs.length = ps.length)
    (hb : ∀ (A : Around) (out : List Env) (s : Shared) (H : Hp) (vs : List V) (Q : VK) (E : XK), Room k (A.deeper (envOfC qual scope s.heap.objs.size f cdv)) → sp vs H Q E →
      ∃ t, PSs (cxOf CX P w K mg base N qual scope f cdv A out s H E) body t ∧ t { nx := fun _ G => Q .non G, rt := Q } (start N vs) H) :
    FnOk P w K mg base CX (k + 1) f (PySem.W.fnOf name qual params body scope dV kV doc pm an cdv ct) ps sp := by
  refine ⟨hn, fun A out s H ar us vs Q E z e0 bd rv hs => ?_⟩
  have kin : K.In s.heap := e0.mod.kin.keeps fun c u q => (e0.bs c u q).1
  have nol : s.heap.NoLimit := e0.mod.nolimit.keeps fun c u q => (e0.bs c u q).1
  have kinds : ∀ y ∈ ps.zip us, scope.names.lookup y.1 = some .local ∨ (scope.names.lookup y.1 = some .cell ∧ ((cellsFrom (s.heap.objs.size + 1) scope.names []).lookup y.1).isSome = true) := by
    rintro ⟨n, v⟩ hy
    rcases S.par n (List.of_mem_zip hy).1 with c | c
    · exact .inl c
    · exact .inr ⟨c, PySem.W.cellsFrom_some _ _ _ (.inl c)⟩
  refine codeAny_call_function z.rm.depth (kin _ _ lk) rfl S.co S.gen rfl (PySem.W.codeRec_of kin hc) (bd _ _ _ _ ?_)
  refine wpAny_newFunctionEnv_cells S.kind kinds ?_
  rintro env rfl s1 ic
  refine ⟨nol.keeps ic.toInCall.keep, codeAny_func ?_⟩
  obtain ⟨t, pt, qt⟩ := hb A out s H vs Q E ⟨z.rm.deeper _, z.gd⟩ hs
  have I : Inv (cxOf CX P w K mg base N qual scope f cdv A out s H E) [] (start N vs) H s1 := inv_start S z.rm.hd e0 (hn _ _ _ _ hs) rv ic
  refine wpAny_mono (pt.run [] s1 (start N vs) H _ I qt) (fun fl s2 ends => ?_) fun _ _ h => h
  cases fl with
  | brk => exact (let ⟨_, _, _, no⟩ := ends; no : False).elim
  | cont => exact (let ⟨_, _, _, no⟩ := ends; no : False).elim
  | next =>
    obtain ⟨σ1, H1, J, w1⟩ := ends
    exact ⟨.non, H1, J.os, J.bare, J.base, J.hok, rfl, w1⟩
  | ret u =>
    obtain ⟨v, σ1, H1, J, ru, w1⟩ := ends
    exact ⟨v, H1, J.os, J.bare, J.base, J.hok, ru, w1⟩
theorem fok {x qual : Str} {st : Stmt} (F : Fun K x qual st f fd) (S : FnScope N ps (defScope st)) (hn : ∀ vs H Q E, sp vs H Q E → vs.length = ps.length)
    (hb : ∀ (cdv : Value) (A : Around) (out : List Env) (s : Shared) (H : Hp) (vs : List V) (Q : VK) (E : XK), Room k (A.deeper (envOfC qual (defScope st) s.heap.objs.size f cdv)) → sp vs H Q E →
      ∃ t, PSs (cxOf CX0 P w K mg base N qual (defScope st) f cdv A out s H E).nox (defBody st) t ∧ t { nx := fun _ G => Q .non G, rt := Q } (start N vs) H) : FnOk P w K mg base CX0 (k + 1) f fd ps sp := by
  obtain ⟨oc, od, kV, doc, pm, an, cd, ct, sl, rfl, lk, hc⟩ := F.ex
  exact fok_of lk hc S hn fun A out s H vs Q E z hs => let ⟨t, a, b⟩ := hb cd A out s H vs Q E z hs; ⟨t, a.nox, b⟩
theorem fokX {x qual : Str} {st : Stmt} (F : Fun K x qual st f fd) (S : FnScope N ps (defScope st)) (hn : ∀ vs H Q E, sp vs H Q E → vs.length = ps.length)
    (hb : ∀ (cdv : Value) (A : Around) (out : List Env) (s : Shared) (H : Hp) (vs : List V) (Q : VK) (E : XK), Room k (A.deeper (envOfC qual (defScope st) s.heap.objs.size f cdv)) → sp vs H Q E →
      ∃ t, PSs (cxOf (L2.CX P w) P w K mg base N qual (defScope st) f cdv A out s H E) (defBody st) t ∧ t { nx := fun _ G => Q .non G, rt := Q } (start N vs) H) : FnOk P w K mg base (L2.CX P w) (k + 1) f fd ps sp := by
  obtain ⟨oc, od, kV, doc, pm, an, cd, ct, sl, rfl, lk, hc⟩ := F.ex
  exact fok_of lk hc S hn fun A out s H vs Q E z hs => hb cd A out s H vs Q E z hs
end
section
variable {X : Cx} {CX : CXT} {k : Nat} {f : Addr} {fd : FuncData} {ps ks : List Str} {sp : Sp} {E : XK} {g : List Value → List Value → List Value} {gV : List V → List V → List V}
theorem fn_ran {pins : List (Addr × Obj)} {σ : L2.St} {H : Hp} {s : Shared} {Q : VK} {ar : Args} {us : List Value} {vs : List V} (F : FnOk X.prog X.w X.K X.mg X.base CX k f fd ps sp) (z : Room k X.A) (hx : Passes CX X E)
    (I : Inv X pins σ H s) (bd : BindsTo s fd ar (ps.zip us)) (rv : Vals vs us) (h : sp vs H Q E) : wpAny (model X.prog X.w) X.A (call (.ref f) ar.pos ar.kw) (EP X pins σ Q) X.xe s := by
  refine wpAny_call (codeAny_mono (F.run X.A X.stack s H ar us vs Q E z I.env0 bd rv h) ?_)
  rintro (e | fl) s2 ends
  · exact hx pins σ H s e s2 I ends
  cases fl with
  | ret u => exact I.after ends
  | next => exact (ends : False).elim
  | brk => exact (ends : False).elim
  | cont => exact (ends : False).elim
end
/-! ### calls -/
section
variable {X : Cx} {CX : CXT} {k n : Nat} {f : Addr} {fd : FuncData} {ps ks : List Str} {sp : Sp} {E : XK} {x : Str} {p pos : Pos} {kws : List Keyword} {tk t : TA} {g : List Value → List Value → List Value} {gV : List V → List V → List V}
  {e : Expr} {es : List Expr} {dvs : List V} {ds : List Value}
theorem pe_call (F : FnOk X.prog X.w X.K X.mg X.base CX k f fd ps sp) (z : Room k X.A) (gl : Gl X x) (hm : X.mg x = some (.ref f)) (kp : PySem.W.keepIn X.K (.ref f) = true) (hb : Binds X.K fd ps ds) (hd : Vals dvs ds) (hx : Passes CX X E)
    (ha : PA X (e :: es) t) (hdb : (x == ("__debug__" : Str)) = false := by decide)
    (he : starEach (e :: es) X.env = (false, eval e X.env) :: starEach es X.env := by rfl) (hpl : (backTo pos (starEach es X.env)).any (·.1) = false := by rfl) :
    PE X (.Call (.Name x p) (e :: es) [] pos) (tCall sp dvs E t) := by
  constructor
  intro pins s σ H Q I h
  refine wpAny_Call_Name_kw (ld_glob I gl hm (PySem.W.callWith_K (h₀ := X.base) I.ok.mod.kin kp (thn (ha.run pos pins s σ H _ I h) ?_) he hpl) hdb)
  rintro us s1 ⟨vs, H1, I1, rv, q⟩
  have r2 : Vals (vs ++ dvs) (us ++ ds) := rv.append hd
  exact ⟨I1.kIn, fn_ran (ar := ⟨us, []⟩) F z hx I1 (hb s1 us I1.kIn (r2.length.symm.trans (F.len _ _ _ _ q))) r2 q⟩
theorem pe_callN (F : FnOk X.prog X.w X.K X.mg X.base CX k f fd ps sp) (z : Room k X.A) (gl : Gl X x) (hm : X.mg x = some (.ref f)) (kp : PySem.W.keepIn X.K (.ref f) = true) (hb : KBn X.K fd ps n ks g gV) (hx : Passes CX X E)
    (ha : PA X (e :: es) t) (hkw : PK X kws tk) (hall : (backToKw pos (keywordEach kws X.env)).all (·.1.isSome) = true := by rfl)
    (hks : (backToKw pos (keywordEach kws X.env)).filterMap (·.1) = ks := by rfl) (hdb : (x == ("__debug__" : Str)) = false := by decide)
    (he : starEach (e :: es) X.env = (false, eval e X.env) :: starEach es X.env := by rfl)
    (hpl : ((backTo pos (starEach (e :: es) X.env)).any (·.1) || (backToKw pos (keywordEach kws X.env)).any (·.1.isNone)) = false := by rfl) :
    PE X (.Call (.Name x p) (e :: es) kws pos) (tCallN n ks.length sp gV E t tk) := by
  refine ⟨fun pins s σ H Q I h => ?_⟩
  refine wpAny_Call_Name_kw (ld_glob I gl hm (PySem.W.callWith_KW (h₀ := X.base) I.ok.mod.kin kp hall (thn (ha.run pos pins s σ H _ I h) ?_) hpl he) hdb)
  rintro us s1 ⟨vs, H1, I1, rv, q⟩
  refine thn (hkw.run pos pins s1 σ H1 _ I1 q) fun ws s2 ⟨zs, H2, I2, rz, l1, l2, q2⟩ => ⟨I2.kIn, ?_⟩
  rw [hks]
  exact fn_ran (ar := ⟨us, ks.zip ws⟩) F z hx I2 (hb.to s2 us ws I2.kIn (rv.length.symm.trans l1) (rz.length.symm.trans l2)) (hb.rel rv rz) q2
theorem pe_callN0 (F : FnOk X.prog X.w X.K X.mg X.base CX k f fd ps sp) (z : Room k X.A) (gl : Gl X x) (hm : X.mg x = some (.ref f)) (kp : PySem.W.keepIn X.K (.ref f) = true) (hb : KBn X.K fd ps 0 ks g gV) (hx : Passes CX X E)
    (hkw : PK X kws tk) (hall : (backToKw pos (keywordEach kws X.env)).all (·.1.isSome) = true := by rfl)
    (hks : (backToKw pos (keywordEach kws X.env)).filterMap (·.1) = ks := by rfl) (hdb : (x == ("__debug__" : Str)) = false := by decide)
    (hpl : ((backTo pos (starEach [] X.env)).any (·.1) || (backToKw pos (keywordEach kws X.env)).any (·.1.isNone)) = false := by rfl) :
    PE X (.Call (.Name x p) [] kws pos) (tCallN 0 ks.length sp gV E tNil tk) := by
  refine ⟨fun pins s σ H Q I h => ?_⟩
  refine wpAny_Call_Name_kw (ld_glob I gl hm (PySem.W.callWith_KW0 (h₀ := X.base) I.ok.mod.kin kp hall ?_ hpl) hdb)
  refine thn (hkw.run pos pins s σ H _ I h) fun ws s2 ⟨zs, H2, I2, rz, l1, l2, q2⟩ => ⟨I2.kIn, ?_⟩
  rw [hks]
  exact fn_ran (ar := ⟨[], ks.zip ws⟩) F z hx I2 (hb.to s2 [] ws I2.kIn rfl (rz.length.symm.trans l2)) (hb.rel (vs := []) (us := []) .nil rz) q2
end

/-! ### the head of a law -/
theorem law_ran {P : Program} {w : World} {K : PySem.W.Frag} {mg mb : Str → Option Value} {k : Nat} {fa a : Addr} {fd : FuncData} {x : Str} {sp : Sp} {s : Shared} {vs : List Value} {ns : List Int}
    (kin : K.In s.heap) (ng : s.heap.Ns mainGlobals mg) (nb : s.heap.Ns builtinsNs mb) (bb : ∀ y : Str, y ≠ "__name__" → mb y = bootBuiltins y) (nol : s.heap.NoLimit) (ge : s.gens = #[])
    (ha : s.heap.get? a = some { cls := .type "list", data := .seq vs.toArray }) (hi : IntsAre vs ns) (hl : ns.length ≤ sizeLine) (z : Room k callerA)
    (F : ∀ base : Heap, K.In base → base.Ns mainGlobals mg → FnOk P w K mg base CX0 k fa fd [x] sp) (bd : ∀ (c : Shared) (u : Value), BindsTo c fd ⟨[u], []⟩ [(x, u)])
    (hsp : ∀ H : Hp, SqL K H a (ns.map V.int) → sp [.ref a] H (fun v _ => v = .bl true) fun _ _ _ => False) :
    codeAny (model P w) callerA (.call (.ref fa) ⟨[.ref a], []⟩) (fun r c => r = .ok (.ret (.bool true)) ∧ OldK s.heap c.heap ∧ c.os = s.os ∧ AllBare c.gens) s := by
  have rv : Vals (ns.map V.int) vs := vals_ints hi
  have main : ∀ H : Hp, Only H → (∀ b, H b ≠ none → b = a ∧ K.lookup a = none) → SqL K H a (ns.map V.int) → HOk P w H s.heap →
      codeAny (model P w) callerA (.call (.ref fa) ⟨[.ref a], []⟩) (fun r c => r = .ok (.ret (.bool true)) ∧ OldK s.heap c.heap ∧ c.os = s.os ∧ AllBare c.gens) s := by
    intro H on at_ sq ok
    have off : ∀ {b : Addr}, b ≠ a → H b = none := fun {b} ne => Classical.byContradiction fun c => ne (at_ b c).1
    have hid : ∀ {b : Addr} {m : Str → Option Value}, s.heap.Ns b m → (hidT s.heap H).Ns b m := by
      rintro b m ⟨o, es, ep, g, d, r⟩
      refine ⟨o, es, ep, hidT_get g (off ?_), d, r⟩
      rintro rfl
      have q := ha.symm.trans g
      cases q
      cases d
    have kb : K.In (hidT s.heap H) := fun b o g => by
      refine hidT_get (kin b o g) (Classical.byContradiction fun c => ?_)
      obtain ⟨eb, no⟩ := at_ b c
      rw [eb, no] at g
      cases g
    have md : Mod K mg (hidT s.heap H) := by
      obtain ⟨mc, n1, n2⟩ := nol
      exact ⟨kb, hid ng, ⟨mb, hid nb, bb⟩, ⟨mc, hid n1, n2⟩⟩
    have e0 : Env0 P w K mg (hidT s.heap H) callerA [] s H :=
      { frames := rfl, mod := md, bs := fun b o g => of_hidT g, bsz := Nat.le_of_eq (hidT_size _ _), funs := trivial, frf := (fun b c => nomatch (show b ∈ ([] : List Addr) from c)), hok := ok, bare := .of_eq ge }
    refine codeAny_mono ((F _ kb (hid ng)).run callerA [] s H ⟨[.ref a], []⟩ [.ref a] [.ref a] _ _ z e0 (bd s (.ref a)) (.cons rfl .nil) (hsp H sq)) ?_
    rintro (er | fl) c ends
    · exact (ends : False).elim
    cases fl with
    | next => exact (ends : False).elim
    | brk => exact (ends : False).elim
    | cont => exact (ends : False).elim
    | ret u =>
      obtain ⟨v, H1, os, bare, un, ok1, ru, q⟩ := ends
      have q1 : v = .bl true := q
      subst q1
      obtain rfl : u = Value.bool true := ru
      refine ⟨rfl, OldK.of_keep ?_, os, bare⟩
      intro b o g
      rcases on b with h0 | ⟨ob, xs, h1⟩
      · exact un.keep b o g h0 (fun c => nomatch (show b ∈ ([] : List Addr) from c)) (fun c => nomatch c)
      · have g2 := (ok1 b _ (un.frzs b ob _ h1)).1
        have g1 := (ok b _ h1).1
        rw [g] at g1
        cases g1
        exact g2
  by_cases no : K.lookup a = none
  · refine main (fun b => if b = a then some (.frz { cls := .type "list", data := .seq vs.toArray } (.lst (ns.map V.int))) else none) ?_ ?_ (.inl (.inr ⟨{ cls := .type "list", data := .seq vs.toArray }, if_pos rfl⟩)) ?_
    · intro b
      by_cases c : b = a
      · exact .inr ⟨_, _, if_pos c⟩
      · exact .inl (if_neg c)
    · intro b q
      by_cases c : b = a
      · exact ⟨c, no⟩
      · exact absurd (if_neg c) q
    · intro b u q
      by_cases c : b = a
      · have q1 := (if_pos c).symm.trans q
        cases q1
        subst c
        exact ⟨ha, by rw [List.length_map]; exact hl, vs, _, rv, ha⟩
      · have q1 := (if_neg c).symm.trans q
        cases q1
  · obtain ⟨o, ho⟩ := Option.ne_none_iff_exists'.mp no
    have g := kin a o ho
    rw [ha] at g
    cases g
    refine main (fun _ => none) (fun _ => .inl rfl) (fun b q => absurd rfl q) (.inr ⟨_, vs.toArray, _, ho, rfl, rfl, rfl, ?_, by simpa using rv⟩) (fun b u q => ?_)
    · rw [List.size_toArray, hi.length]
      exact hl
    · have q' : (none : Option HO) = some u := q
      cases q'
theorem walk_law {l : PySem.W.OpenLaw} {n k : Nat} {q : Program} {loose : List Str} {XP : (Str → Option Value) → Heap → Prop} {YP : World → Heap → Prop} {d : DefRec} {K : Params → PySem.W.Frag} {sp : World → Sp} {x : Str}
    (hn : l.most = some n) (hn2 : n ≤ sizeLine) (hdf : d.params.defaults = []) (z : L2.Room k callerA)
    (hY : ∀ (w : World) (h : Heap), YP w h → (K w.params).In h)
    (F : ∀ (w : World) (mg : Str → Option Value) (fa : Addr) (h : Heap), (K w.params).In h → h.Ns mainGlobals mg → mg d.name = some (.ref fa) →
      ∃ fd : FuncData, (∀ (s : Shared) (u : Value), BindsTo s fd ⟨[u], []⟩ [(x, u)]) ∧ ∀ base : Heap, (K w.params).In base → base.Ns mainGlobals mg → FnOk l.prog w (K w.params) mg base CX0 k fa fd [x] (sp w))
    (hsp : ∀ (w : World) (H : Hp) (a : Addr) (ns : List Int), ns.length ≤ n → SqL (K w.params) H a (ns.map V.int) → sp w [.ref a] H (fun v _ => v = .bl true) fun _ _ _ => False) :
    PySem.W.WalkO q loose XP YP l.row.toRowW d [] (fun f vs => PySem.call f vs) := by
  refine Att.attach_call hn hdf ?_
  intro w s0 s1 mg mb fa o pm cd doc a vs ns G Y _ _ _ hmg ho hi hl hg
  have kin := hY w _ Y
  obtain ⟨fd, bd, ok⟩ := F w mg fa _ kin G.T.g hmg
  exact law_ran kin G.T.g G.T.b G.T.builtins G.T.nolimit hg ho hi (Nat.le_trans hl hn2) ⟨z, rfl⟩ ok bd fun H sq => hsp w H a ns hl sq

/-! ### repr -/
section
variable {X : Cx}
def rRepr (K : PySem.W.Frag) : List V → Hp → VK → Prop := fun xs H Q => ∃ (a : Addr) (d : PyData), xs = [.ref a] ∧ Dp K H (.ref a) d ∧ d.showable = true ∧ d.hasDict = false ∧ d.depth ≤ 60 ∧ d.shown.length ≤ sizeLine ∧ Q (.str d.shown) H
theorem call_repr {k : Nat} (z : Room k X.A) : CallR X (.builtin "repr") (rRepr X.K) := by
  intro pins s σ H xs us Q I r h
  obtain ⟨a, d, rfl, hd, sh, nd, dp, sz, q⟩ := h
  obtain ⟨u, rfl, ru⟩ := vals1 r
  cases ru
  obtain ⟨as, rd⟩ := Dp.reads I d (.ref a) (.ref a) hd rfl
  refine repr_of_reads' rd sh (PyData.noDict_hsm nd) z.gd (by have := z.units; omega) (fun _ _ e => e) (fun h' u tk kp => ?_) sz
  exact ⟨.str d.shown, H, I.kept (t' := tk) kp, ⟨u, rfl⟩, q⟩
end
end Lk
set_option maxRecDepth 100000
set_option maxHeartbeats 4000000
namespace Lk
open PySem PySem.Spec PyProof.Rows L2

/-! ### enumerate(tuple) -/
theorem meets_enum1 {v : Value} {o : Obj} {H : Heap → Prop} (B : Begins v o H) :
    Meets (Builtin.«enumerate.__new__» ⟨[.type "enumerate", v], []⟩) (fun _ R s => H s.heap ∧
      R (.ok (.ret (.ref (s.heap.push o).objs.size))) { s with heap := (s.heap.push o).push { cls := .type "enumerate", data := .fields #[.none, .bool false, .ref s.heap.objs.size, rawInt 0, .none, .none] } }) :=
  .of_wp fun prog w A R s h => by
    obtain ⟨hp, g, d, tk, os⟩ := s; obtain ⟨h1, h⟩ := h
    have hsub := sub_enumerate
    have q1 : ∀ {A' : Around} {E : Value → Shared → Prop} {Q : Value → Shared → Prop}, Q (.ref hp.objs.size) ⟨hp.push o, g, d, tk, os⟩ → wpAny (model prog w) A' (pyIter v) Q E ⟨hp, g, d, tk, os⟩ :=
      fun q => B.iter prog w _ _ ⟨hp, g, d, tk, os⟩ _ h1 q
    wp_walk using q1
    refine wpAny_stack_any fun st => wpAny_pure ?_
    split
    · rename_i c _ _ _ _ _
      cases (c == Value.type "enumerate")
      · wp_walk using q1
        exact ⟨_, rfl, h⟩
      · wp_walk using q1
        exact ⟨_, rfl, h⟩
    · wp_walk using q1
      exact ⟨_, rfl, h⟩
section
variable {prog : Program} {w : World} {A : Around} {E : Value → Shared → Prop} {s : Shared}
theorem enum1_begins {v : Value} {o : Obj} {H : Heap → Prop} {Q : Value → Shared → Prop} (B : Begins v o H) (h1 : H s.heap)
    (h : ∀ h', IsEnum h' (s.heap.objs.size + 1) s.heap.objs.size 0 .none → h'.get? s.heap.objs.size = some o → h'.objs.size = s.heap.objs.size + 2 →
      (∀ b o, s.heap.get? b = some o → h'.get? b = some o) → Q (.ref (s.heap.objs.size + 1)) { s with heap := h' }) :
    wpAny (model prog w) A (call (.type "enumerate") [v]) Q E s := by
  refine callType_new F.called_enumerate (by decide) (F.typeCall_enumerate_1 _) (F.newCall_enumerate_1 _) (fun obj => F.args_object_init_2 obj _) F.entry_enumerate_new
    (meets_enum1 B) ⟨h1, ?_⟩
  have hz : (s.heap.push o).objs.size = s.heap.objs.size + 1 := Heap.size_push ..
  show _ ∧ _
  rw [hz]
  have he : IsEnum ((s.heap.push o).push { cls := .type "enumerate", data := .fields #[.none, .bool false, .ref s.heap.objs.size, rawInt 0, .none, .none] }) (s.heap.objs.size + 1) s.heap.objs.size 0 .none := by
    have := Heap.get?_push_size (s.heap.push o) (o := { cls := .type "enumerate", data := .fields #[.none, .bool false, .ref s.heap.objs.size, rawInt 0, .none, .none] }) rfl
    rw [hz] at this; exact this
  refine ⟨⟨_, he, rfl⟩, h _ he (Heap.get?_push_of_some _ (Heap.get?_push_size _ B.free)) (by rw [Heap.size_push, hz]) fun b o x => Heap.get?_push_of_some _ (Heap.get?_push_of_some _ x)⟩
end
def IteT (K : PySem.W.Frag) (a : Addr) : It :=
  ⟨fun i H => ∃ (xs : List V) (x : V), SqT K H a xs ∧ xs[i]? = some x, fun i H v H' => ∃ T x, v = .ref T ∧ H T = none ∧ H' = upd H T (.tup [.int (i : Nat), x]) ∧ ∀ xs, SqT K H a xs → xs[i]? = some x, fun i H => ∃ xs : List V, SqT K H a xs ∧ xs.length = i⟩
theorem turn_enumT {P : Program} {w : World} {K : PySem.W.Frag} {elts : List Expr} {kk : Nat} {tpos : Pos} (a e it : Addr) :
    Turn P w K (.Tuple elts kk tpos) (IteT K a) [e, it] e (fun i h => (∃ old, IsEnum h e it ((i : Nat) : Int) old) ∧ h.IsTupleIter it a i ∧ e ≠ it) where
  mem := by simp
  obj := fun i h st b hb => by
    obtain ⟨⟨old, he⟩, ⟨o, ho, hc, hd⟩, _⟩ := st
    have e' : b = e ∨ b = it := by simpa using hb
    rcases e' with z | z
    · rw [z]; exact ⟨_, he, fun v q => nomatch q⟩
    · rw [z]; exact ⟨o, ho, fun v q => by rw [hd] at q; cases q⟩
  keep := fun i h h' st k => let ⟨⟨old, he⟩, hi, hne⟩ := st; ⟨⟨old, k e (by simp) _ he⟩, hi.at fun o q => k it (by simp) o q, hne⟩
  item := by
    intro X hP hw hK hc i pins s σ H E I hf st hg
    subst hP hw hK
    obtain ⟨⟨old, he⟩, hit, hne⟩ := st
    obtain ⟨xs, x, hq, hx⟩ := hg
    obtain ⟨its, rv, p, hz⟩ := I.tuple hq
    obtain ⟨u, hu, ru⟩ := rv.get hx
    have hel : e < s.heap.objs.size := Heap.lt_size he
    have hil : it < s.heap.objs.size := by obtain ⟨_, q, _⟩ := hit; exact Heap.lt_size q
    have hai : a ≠ it := by
      rintro rfl
      obtain ⟨o, ho, hcc, _⟩ := p
      obtain ⟨o', ho', hc', _⟩ := hit
      rw [ho] at ho'; cases ho'
      rw [hcc] at hc'
      exact absurd (Value.type.inj hc') (by decide)
    have hae : e ≠ a := by
      rintro rfl
      obtain ⟨o, ho, hcc, _⟩ := p
      have ho' := ho.symm.trans he
      cases ho'
      exact absurd (Value.type.inj hcc) (by decide)
    have hlt : i < its.toArray.size := by
      rw [List.size_toArray]
      exact (List.getElem?_eq_some_iff.mp hu).1
    refine wpAny_pyNext_enum_itemD (Draws.tuple (A := X.A.in1) (I.ok.hd hc) it a hai its.toArray) he ⟨hit, p⟩ hlt hne (by simp [hne, hae]) fun v h' tk hxv ho st' hT hsz hk => ?_
    have ev : v = u := by
      have q : its.toArray[i]? = some v := hxv
      rw [List.getElem?_toArray, hu] at q
      exact (Option.some.inj q).symm
    subst ev
    refine ⟨_, rfl, wpAny_letOwnedTupleGo_enum (s := { s with heap := h', toks := tk + 1 }) ho fun h'' he' sb => ?_⟩
    have hT2 : h''.get? s.heap.objs.size = some { cls := .type "tuple", data := .seq #[.int i tk, v] } := (sb.2 _ (Nat.ne_of_gt hel)).trans hT
    have new : ObjOk X.prog X.w (upd H s.heap.objs.size (.tup [.int (i : Nat), x])) h'' s.heap.objs.size (.tup [.int (i : Nat), x]) :=
      ⟨by show 2 ≤ sizeLine; decide, [.int i tk, v], .cons ⟨_, rfl⟩ (.cons ru .nil), ⟨_, hT2, rfl, _, rfl⟩⟩
    have I1 : Inv X pins σ (upd H s.heap.objs.size (.tup [.int (i : Nat), x])) { s with heap := h'', toks := tk + 1 } :=
      I.turnedNew (ch := [e, it]) (fun b ob hb q => (sb.2 b (fun z => hb (by simp [z]))).trans (hk b ob (fun z => hb (by simp [z])) (fun z => hb (by simp [z])) q)) hf (Nat.le_refl _) new
    refine ⟨.ref s.heap.objs.size, _, I1, rfl, ⟨_, x, rfl, I.hok.fresh (Nat.le_refl _), rfl, fun ys hy => by rw [I.tuple_inj hy hq]; exact hx⟩, ⟨⟨v, ?_⟩, st'.1.at fun o q => (sb.2 it (Ne.symm hne)).trans q, hne⟩, fun b hb => ?_⟩
    · have e1 : ((i + 1 : Nat) : Int) = (i : Int) + 1 := by omega
      rw [e1]; exact he'
    · have hb' : b < s.heap.objs.size := by
        have e' : b = e ∨ b = it := by simpa using hb
        rcases e' with z | z
        · rw [z]; exact hel
        · rw [z]; exact hil
      rw [upd_ne (Nat.ne_of_lt hb')]
      exact (hf b hb).1
  done := by
    intro X hP hw hK hc i pins s σ H E I hf st hg
    subst hP hw hK
    obtain ⟨⟨old, he⟩, hit, hne⟩ := st
    obtain ⟨xs, hq, hx⟩ := hg
    obtain ⟨its, rv, p, hz⟩ := I.tuple hq
    obtain ⟨f0, f1, f2, f3, f4, f5⟩ := hf it (by simp)
    have hl := rv.length
    have hai : a ≠ it := by
      rintro rfl
      obtain ⟨o, ho, hcc, _⟩ := p
      obtain ⟨o', ho', hc', _⟩ := hit
      rw [ho] at ho'; cases ho'
      rw [hcc] at hc'
      exact absurd (Value.type.inj hc') (by decide)
    have en : i = its.toArray.size := by
      rw [List.size_toArray]
      omega
    subst en
    exact wpAny_pyNext_enum_endD (Draws.tuple (A := X.A.in1) (I.ok.hd hc) it a hai its.toArray) he ⟨hit, p⟩ fun h' eb => ⟨rfl, I.turned (t' := s.toks) (fun b o hb q => eb b o hb q) f0 f1 f3 f4 f5⟩
  self := fun A i s Q E st h => let ⟨⟨_, he⟩, _⟩ := st; wpAny_pyIter_enum he h
def iEnumT (K : PySem.W.Frag) (ta : TA) : TI := fun σ H R => ta σ H fun vs H1 => ∃ a xs, vs = [.ref a] ∧ SqT K H1 a xs ∧ R (IteT K a) H1
theorem pi_enumT {X : Cx} {e : Expr} {ta : TA} {p pos tpos : Pos} {elts : List Expr} {kk : Nat} (hg : Gl X "enumerate") (hm : X.mg "enumerate" = none) (ha : PA X [e] ta) (hs : starEach [e] X.env = [(false, eval e X.env)] := by rfl) :
    PI X (.Tuple elts kk tpos) (.Call (.Name "enumerate" p) [e] [] pos) (iEnumT X.K ta) := by
  refine ⟨fun pins s σ H R I h => ?_⟩
  refine Call_ (ld_blt I hg hm boot_enumerate (PyProof.Rows.callWith_type1 (thn (ha.run pos pins s σ H _ I h) fun us s1 ⟨vs, H1, I1, r1, q1⟩ => ?_) hs rfl))
  obtain ⟨a, xs, ex, hq, q⟩ := q1
  subst ex
  cases r1 with
  | cons r rr =>
    cases rr
    cases r
    obtain ⟨its, rv, p', hz⟩ := I1.tuple hq
    refine enum1_begins (begins_tuple a its.toArray) p' fun h' he hit hsz hk => wpAny_pyIter_enum he ?_
    have I2 : Inv X pins σ H1 { s1 with heap := h' } := I1.kept (t' := s1.toks) hk
    refine ⟨s1.heap.objs.size + 1, [s1.heap.objs.size + 1, s1.heap.objs.size], _, _, H1, rfl, I2, turn_enumT a (s1.heap.objs.size + 1) s1.heap.objs.size, ⟨⟨.none, he⟩, ⟨_, hit, rfl, rfl⟩, Nat.succ_ne_self _⟩, fun b hb => ?_, q⟩
    have e' : b = s1.heap.objs.size + 1 ∨ b = s1.heap.objs.size := by simpa using hb
    have hle : s1.heap.objs.size ≤ b := by
      rcases e' with z | z
      · rw [z]; exact Nat.le_add_right _ _
      · rw [z]; exact Nat.le_refl _
    exact I1.fpOk hle (I1.hok.fresh hle)
theorem walk_enumT {K : PySem.W.Frag} {a : Addr} {xs : List V} : Walk (IteT K a) xs.length (fun H => SqT K H a xs) (YPair (fun i => some (.int (i : Nat))) (fun i => xs[i]?)) := by
  refine ⟨fun i _ hi q => ⟨xs, xs[i], q, by simp [hi]⟩, fun _ q => ⟨xs, q, rfl⟩, fun i H v H' _ q y => ?_⟩
  obtain ⟨T, x, h1, h2, h3, h4⟩ := y
  exact ⟨T, .int (i : Nat), x, h1, h2, h3, rfl, h4 xs q⟩

/-! ### min, max of two texts -/
def lmin (x y : Str) : Str := if y.cps.toList < x.cps.toList then y else x
def lmax (x y : Str) : Str := if x.cps.toList < y.cps.toList then y else x
theorem cmp_lt_strs {prog : Program} {w : World} {A : Around} {P : Nat → Value → Prop} (val : Nat → Str) (hval : ∀ i v, P i v → ∃ t, v = .str (val i) t) :
    CmpOf prog w A .Lt P (fun i j => decide ((val i).cps.toList < (val j).cps.toList)) := fun i j vi vj s Q E hi hj h => by
  obtain ⟨t, rfl⟩ := hval i vi hi
  obtain ⟨u, rfl⟩ := hval j vj hj
  exact richCompare_gives (op := .Lt) (typeIs_str s _ t) (typeIs_str s _ u) F.slot_str_lt F.entry_str_lt (F.args_str_lt_2 _ _) (gives_str_lt _ _ t u) (fun x => nomatch x) h
theorem cmp_gt_strs {prog : Program} {w : World} {A : Around} {P : Nat → Value → Prop} (val : Nat → Str) (hval : ∀ i v, P i v → ∃ t, v = .str (val i) t) :
    CmpOf prog w A .Gt P (fun i j => decide ((val j).cps.toList < (val i).cps.toList)) := fun i j vi vj s Q E hi hj h => by
  obtain ⟨t, rfl⟩ := hval i vi hi
  obtain ⟨u, rfl⟩ := hval j vj hj
  exact richCompare_gives (op := .Gt) (typeIs_str s _ t) (typeIs_str s _ u) F.slot_str_gt F.entry_str_gt (F.args_str_gt_2 _ _) (gives_str_gt _ _ t u) (fun x => nomatch x) h
def txtAt (x y : Str) (i : Nat) : Str := if i = 0 then x else y
theorem two_at {x y : Str} {t u : Tok} {i : Nat} {v : Value} (h : (#[.str x t, .str y u] : Array Value)[i]? = some v) : ∃ k, v = .str (txtAt x y i) k := by
  match i, h with
  | 0, h => exact ⟨t, (Option.some.inj h).symm⟩
  | 1, h => exact ⟨u, (Option.some.inj h).symm⟩
  | i + 2, h =>
    have q : (#[.str x t, .str y u] : Array Value)[i + 2]? = none := by simp
    rw [q] at h
    cases h
section
variable {prog : Program} {w : World} {A : Around} {E : Value → Shared → Prop} {s : Shared}
theorem min_two_strs {a b : Str} {t u : Tok} {Q : Value → Shared → Prop} (hh : A.handled = none)
    (h : ∀ h' tk k, (∀ c o, s.heap.get? c = some o → h'.get? c = some o) → Q (.str (lmin a b) k) { s with heap := h', toks := tk }) :
    wpAny (model prog w) A (call (.builtin "min") [.str a t, .str b u]) Q E s := by
  have hT : (s.heap.push { cls := .type "tuple", data := .seq #[.str a t, .str b u] }).IsTuple s.heap.objs.size #[.str a t, .str b u] := ⟨_, Heap.get?_push_size _ rfl, rfl, 0, rfl⟩
  refine call_min_two (wpAny_pyIter_tuple hT ?_)
  have hsz : (s.heap.push { cls := .type "tuple", data := .seq #[.str a t, .str b u] }).objs.size = s.heap.objs.size + 1 := Heap.size_push ..
  refine ⟨_, [_, s.heap.objs.size], [_], _, _, _, _, rfl, Walks.tuple (A := A.in1) hh _ s.heap.objs.size (by rw [hsz]; exact Nat.ne_of_lt (Nat.lt_succ_self _)) #[.str a t, .str b u],
    ⟨⟨_, Heap.get?_push_size _ rfl, rfl, rfl⟩, hT.push _⟩, fun c hc => ?_, by simp, cmp_lt_strs (txtAt a b) (fun _ _ => two_at), fun v h' tk hP hk => ?_⟩
  · show c < ((s.heap.push _).push _).objs.size
    rw [Heap.size_push, hsz]
    rcases List.mem_cons.mp hc with rfl | hc
    · rw [hsz]; exact Nat.lt_succ_self _
    · rcases List.mem_cons.mp hc with rfl | hc
      · exact Nat.lt_succ_of_lt (Nat.lt_succ_self _)
      · cases hc
  · have hold : ∀ c o, s.heap.get? c = some o → h'.get? c = some o := fun c o e => by
      refine hk c o (fun hm => ?_) (Heap.get?_push_of_some _ (Heap.get?_push_of_some _ e))
      rcases List.mem_cons.mp hm with e1 | hm
      · have := Heap.lt_size e; rw [e1, hsz] at this; exact Nat.lt_irrefl _ (Nat.lt_of_succ_lt this)
      · cases hm
    have hP' : (#[.str a t, .str b u] : Array Value)[argBest (fun i j => decide ((txtAt a b i).cps.toList < (txtAt a b j).cps.toList)) 1]? = some v := hP
    have hv : ∃ k, v = .str (lmin a b) k := by
      by_cases hba : b.cps.toList < a.cps.toList
      · have e : argBest (fun i j => decide ((txtAt a b i).cps.toList < (txtAt a b j).cps.toList)) 1 = 1 := by simp [argBest, txtAt, hba]
        rw [e] at hP'
        refine ⟨u, ?_⟩
        rw [lmin, if_pos hba]
        exact (Option.some.inj hP').symm
      · have e : argBest (fun i j => decide ((txtAt a b i).cps.toList < (txtAt a b j).cps.toList)) 1 = 0 := by simp [argBest, txtAt, hba]
        rw [e] at hP'
        refine ⟨t, ?_⟩
        rw [lmin, if_neg hba]
        exact (Option.some.inj hP').symm
    obtain ⟨k, rfl⟩ := hv
    exact h h' tk k hold
theorem max_two_strs {a b : Str} {t u : Tok} {Q : Value → Shared → Prop} (hh : A.handled = none)
    (h : ∀ h' tk k, (∀ c o, s.heap.get? c = some o → h'.get? c = some o) → Q (.str (lmax a b) k) { s with heap := h', toks := tk }) :
    wpAny (model prog w) A (call (.builtin "max") [.str a t, .str b u]) Q E s := by
  have hT : (s.heap.push { cls := .type "tuple", data := .seq #[.str a t, .str b u] }).IsTuple s.heap.objs.size #[.str a t, .str b u] := ⟨_, Heap.get?_push_size _ rfl, rfl, 0, rfl⟩
  refine call_max_two (wpAny_pyIter_tuple hT ?_)
  have hsz : (s.heap.push { cls := .type "tuple", data := .seq #[.str a t, .str b u] }).objs.size = s.heap.objs.size + 1 := Heap.size_push ..
  refine ⟨_, [_, s.heap.objs.size], [_], _, _, _, _, rfl, Walks.tuple (A := A.in1) hh _ s.heap.objs.size (by rw [hsz]; exact Nat.ne_of_lt (Nat.lt_succ_self _)) #[.str a t, .str b u],
    ⟨⟨_, Heap.get?_push_size _ rfl, rfl, rfl⟩, hT.push _⟩, fun c hc => ?_, by simp, cmp_gt_strs (txtAt a b) (fun _ _ => two_at), fun v h' tk hP hk => ?_⟩
  · show c < ((s.heap.push _).push _).objs.size
    rw [Heap.size_push, hsz]
    rcases List.mem_cons.mp hc with rfl | hc
    · rw [hsz]; exact Nat.lt_succ_self _
    · rcases List.mem_cons.mp hc with rfl | hc
      · exact Nat.lt_succ_of_lt (Nat.lt_succ_self _)
      · cases hc
  · have hold : ∀ c o, s.heap.get? c = some o → h'.get? c = some o := fun c o e => by
      refine hk c o (fun hm => ?_) (Heap.get?_push_of_some _ (Heap.get?_push_of_some _ e))
      rcases List.mem_cons.mp hm with e1 | hm
      · have := Heap.lt_size e; rw [e1, hsz] at this; exact Nat.lt_irrefl _ (Nat.lt_of_succ_lt this)
      · cases hm
    have hP' : (#[.str a t, .str b u] : Array Value)[argBest (fun i j => decide ((txtAt a b j).cps.toList < (txtAt a b i).cps.toList)) 1]? = some v := hP
    have hv : ∃ k, v = .str (lmax a b) k := by
      by_cases hba : a.cps.toList < b.cps.toList
      · have e : argBest (fun i j => decide ((txtAt a b j).cps.toList < (txtAt a b i).cps.toList)) 1 = 1 := by simp [argBest, txtAt, hba]
        rw [e] at hP'
        refine ⟨u, ?_⟩
        rw [lmax, if_pos hba]
        exact (Option.some.inj hP').symm
      · have e : argBest (fun i j => decide ((txtAt a b j).cps.toList < (txtAt a b i).cps.toList)) 1 = 0 := by simp [argBest, txtAt, hba]
        rw [e] at hP'
        refine ⟨t, ?_⟩
        rw [lmax, if_neg hba]
        exact (Option.some.inj hP').symm
    obtain ⟨k, rfl⟩ := hv
    exact h h' tk k hold
end
section
variable {X : Cx}
theorem call_minS (hc : X.calm = true) : CallR X (.builtin "min") (fun xs H Q => ∃ i j, xs = [.str i, .str j] ∧ Q (.str (lmin i j)) H) := by
  intro pins s σ H xs us Q I r h
  obtain ⟨i, j, rfl, q⟩ := h
  obtain ⟨u, w', rfl, ⟨t, rfl⟩, ⟨t', rfl⟩⟩ := vals2 r
  exact min_two_strs (I.ok.hd hc) fun h' tk k kp => ⟨.str _, H, I.kept kp, ⟨_, rfl⟩, q⟩
theorem call_maxS (hc : X.calm = true) : CallR X (.builtin "max") (fun xs H Q => ∃ i j, xs = [.str i, .str j] ∧ Q (.str (lmax i j)) H) := by
  intro pins s σ H xs us Q I r h
  obtain ⟨i, j, rfl, q⟩ := h
  obtain ⟨u, w', rfl, ⟨t, rfl⟩, ⟨t', rfl⟩⟩ := vals2 r
  exact max_two_strs (I.ok.hd hc) fun h' tk k kp => ⟨.str _, H, I.kept kp, ⟨_, rfl⟩, q⟩
end

/-! ### sorted of pairs of texts -/
def encP (b : Addr × Str × Str) : PyData := .tuple [.str b.2.1, .str b.2.2]
def rSortedTT (K : PySem.W.Frag) : List V → Hp → VK → Prop := fun vs H Q => ∃ (a : Addr) (bs : List (Addr × Str × Str)), vs = [V.ref a] ∧ SqL K H a (bs.map fun b => V.ref b.1) ∧ (∀ b ∈ bs, H b.1 = some (.tup [.str b.2.1, .str b.2.2])) ∧
  ∀ p, H p = none → Q (.ref p) (upd H p (.lst ((bs.mergeSort (PySem.W.dataLe false encP)).map fun b => V.ref b.1)))
theorem refs_vals : ∀ {bs : List (Addr × Str × Str)} {its : List Value}, Vals (bs.map fun b => V.ref b.1) its → its = bs.map fun b => Value.ref b.1
  | [], its, h => by cases h; rfl
  | b :: bs, its, h => by
    cases h with
    | cons r t =>
      have e : _ = Value.ref b.1 := r
      rw [e, refs_vals t]
      rfl
theorem vals_refs : ∀ (bs : List (Addr × Str × Str)), Vals (bs.map fun b => V.ref b.1) (bs.map fun b => Value.ref b.1)
  | [] => .nil
  | b :: bs => .cons rfl (vals_refs bs)
theorem each_refs : ∀ (bs : List (Addr × Str × Str)), PySem.W.EachIs (fun v b => v = Value.ref b.1) (bs.map fun b => Value.ref b.1) bs
  | [] => .nil
  | b :: bs => .cons rfl (each_refs bs)
theorem of_each : ∀ {bs : List (Addr × Str × Str)} {out : List Value}, PySem.W.EachIs (fun v b => v = Value.ref b.1) out bs → out = bs.map fun b => Value.ref b.1
  | _, _, .nil => rfl
  | _, _, .cons e t => by rw [e, of_each t]; rfl
theorem each_of {R : Value → Addr × Str × Str → Prop} : ∀ {bs : List (Addr × Str × Str)}, (∀ b ∈ bs, R (Value.ref b.1) b) → PySem.W.EachIs R (bs.map fun b => Value.ref b.1) bs
  | [], _ => .nil
  | b :: bs, h => .cons (h b List.mem_cons_self) (each_of fun c hc => h c (List.mem_cons_of_mem _ hc))
section
variable {X : Cx}
theorem cr_sortedTT (hu : X.A.units + 64 < cLine) : CallR X (.builtin "sorted") (rSortedTT X.K) := by
  intro pins s σ H vs us Q I r h
  obtain ⟨a, bs, rfl, hs, hb, q⟩ := h
  obtain ⟨its, rv, hl, hz⟩ := I.list hs
  rw [Vals.ref1 r]
  have hi := refs_vals rv
  subst hi
  have hlen : bs.length ≤ sizeLine := by rw [List.length_map] at hz; exact hz
  refine PySem.W.sorted_data (R := fun v b => v = Value.ref b.1) (bs := bs) (enc := encP) hl.isList (each_refs bs) (each_of fun b hm => ?_) (PySem.W.AllAlike.of fun b b' => ?_) (PySem.W.Sortable.tuples fun b => ⟨_, _, rfl⟩) hlen (fun b _ => ?_) fun out ho he => ?_
  · obtain ⟨_, its2, r2, o, hob, hc, n, hd⟩ := I.hok _ _ (hb b hm)
    obtain ⟨u1, u2, rfl, ⟨t1, rfl⟩, ⟨t2, rfl⟩⟩ := vals2 r2
    exact ⟨_, Reads.tuple hob hc hd (.cons (Reads.str _ _) (.cons (Reads.str _ _) .nil))⟩
  · simp [encP, PySem.W.alike, PySem.W.alikeAll]
  · have : (encP b).depth = 1 := by simp [encP, PyData.depth, PyData.depthAll]
    omega
  · have eo := of_each he
    subst eo
    obtain ⟨ep, he'⟩ := PyProof.Rows.sortedAll_at s.heap (bs.map fun b => Value.ref b.1) ((bs.mergeSort (PySem.W.dataLe false encP)).map fun b => Value.ref b.1).toArray
    have hlen2 : ((bs.mergeSort (PySem.W.dataLe false encP)).map fun b => V.ref b.1).length ≤ sizeLine := by rw [List.length_map, List.length_mergeSort]; exact hlen
    exact ⟨.ref _, upd H (s.heap.objs.size + 1) (.lst ((bs.mergeSort (PySem.W.dataLe false encP)).map fun b => V.ref b.1)), I.laid (t' := s.toks) (fun _ _ => PyProof.Rows.sortedAll_old) (Nat.le_succ _) ⟨hlen2, _, ep, vals_refs _, he'⟩, rfl, q _ (I.hok.fresh (Nat.le_succ _))⟩
end
end Lk
set_option maxRecDepth 100000
set_option maxHeartbeats 4000000
namespace Lk
open PySem PySem.Spec PyProof.Rows L2
/-! ### enumerate over an iterator whose own step may make things (a zip) -/
section
variable {prog : Program} {w : World} {A : Around} {E : Value → Shared → Prop} {s : Shared}
theorem enum_step {e it : Addr} {c : Int} {old : Value} {Q : Value → Shared → Prop} {R : Value → Heap → Nat → Prop} (he : IsEnum s.heap e it c old)
    (nx : ∀ QQ EE : Value → Shared → Prop, (∀ x h1 tk, R x h1 tk → QQ x { s with heap := h1, toks := tk }) → wpAny (model prog w) A (Builtin.SmallTypes.nextOf (.ref it)) QQ EE s)
    (hR : ∀ x h1 tk, R x h1 tk → h1.get? e = s.heap.get? e ∧ s.heap.objs.size ≤ h1.objs.size)
    (hQ : ∀ x h1 tk h2, R x h1 tk → IsEnumOut h2 e it (c + 1) x h1.objs.size → h2.get? h1.objs.size = some { cls := .type "tuple", data := .seq #[.int c tk, x] } → h2.objs.size = h1.objs.size + 1 →
      (∀ b o, b ≠ e → h1.get? b = some o → h2.get? b = some o) → Q (.ref h1.objs.size) { s with heap := h2, toks := tk + 1 }) :
    wpAny (model prog w) A (Builtin.«enumerate.__next__» ⟨[.ref e], []⟩) (fun fin s' => ∃ v, fin = .done (.ret v) ∧ Q v s') E s := by
  obtain ⟨hp, gs, dr, tk0, os⟩ := s
  show wpAny _ _ (field (.ref e) 2 >>= _) _ _ _
  refine wpAny_bind (wpAny_field he rfl (x := .ref it) rfl ?_)
  refine wpAny_bind (nx _ _ fun x h1 tk hr => ?_)
  obtain ⟨hee, hsz⟩ := hR x h1 tk hr
  have hel : e < h1.objs.size := Nat.lt_of_lt_of_le (Heap.lt_size he) hsz
  have e1 : IsEnum h1 e it c old := hee.trans he
  show wpAny _ _ (field (.ref e) 3 >>= _) _ _ ⟨h1, gs, dr, tk, os⟩
  refine wpAny_bind (wpAny_field e1 rfl (x := rawInt c) rfl ?_)
  show wpAny _ _ (field (.ref e) 4 >>= _) _ _ ⟨h1, gs, dr, tk, os⟩
  refine wpAny_bind (wpAny_field e1 rfl (x := .none) rfl ?_)
  show wpAny _ _ (mkInt c >>= _) _ _ ⟨h1, gs, dr, tk, os⟩
  refine wpAny_bind (wpAny_mkInt ?_)
  show wpAny _ _ (setField (.ref e) 3 (rawInt (c + 1)) >>= _) _ _ ⟨h1, gs, dr, tk + 1, os⟩
  refine wpAny_bind (wpAny_setField_rec e1 (by simp) fun k2 e2 b2 => ?_)
  have b2 : Heap.SameBut e h1 k2 := b2
  have e2 : IsEnum k2 e it (c + 1) old := e2
  show wpAny _ _ (setField (.ref e) 4 .none >>= _) _ _ ⟨k2, gs, dr, tk + 1, os⟩
  refine wpAny_bind (wpAny_setField_rec e2 (by simp) fun k3 e3 b3 => ?_)
  have b3 : Heap.SameBut e k2 k3 := b3
  have e3 : IsEnum k3 e it (c + 1) old := e3
  show wpAny _ _ (newTuple [.int c tk, x] >>= _) _ _ ⟨k3, gs, dr, tk + 1, os⟩
  refine wpAny_bind (wpAny_newTuple ?_)
  have e4 : IsEnum (k3.push { cls := .type "tuple", data := .seq #[.int c tk, x] }) e it (c + 1) old := Heap.get?_push_of_some _ e3
  have z3 : k3.objs.size = h1.objs.size := by rw [b3.1, b2.1]
  have t4 : (k3.push { cls := .type "tuple", data := .seq #[.int c tk, x] }).get? h1.objs.size = some { cls := .type "tuple", data := .seq #[.int c tk, x] } := by
    rw [← z3]
    exact Heap.get?_push_size _ rfl
  have z4 : (k3.push { cls := .type "tuple", data := .seq #[.int c tk, x] }).objs.size = h1.objs.size + 1 := by rw [Heap.size_push, z3]
  have o4 : ∀ b o, b ≠ e → h1.get? b = some o → (k3.push { cls := .type "tuple", data := .seq #[.int c tk, x] }).get? b = some o := fun b o nb q => Heap.get?_push_of_some _ (b3.extBut b o nb (b2.extBut b o nb q))
  generalize (k3.push { cls := .type "tuple", data := .seq #[.int c tk, x] }) = k4 at e4 t4 z4 o4
  show wpAny _ _ (Builtin.SmallTypes.ownedTupleIsFree (.ref e) >>= _) _ _ ⟨k4, gs, dr, tk + 1, os⟩
  rw [z3]
  refine wpAny_bind ?_
  unfold Builtin.SmallTypes.ownedTupleIsFree
  refine wpAny_bind (wpAny_field e4 rfl (x := .none) rfl (wpAny_pure ?_))
  simp only [if_true]
  refine wpAny_bind (wpAny_rule ?_)
  refine wpAny_bind (wpAny_field e4 rfl (x := old) rfl ?_)
  refine wpAny_bind (wpAny_setField_rec e4 (by simp) fun k5 e5 b5 => ?_)
  have b5 : Heap.SameBut e k4 k5 := b5
  have e5 : IsEnum k5 e it (c + 1) x := e5
  show wpAny _ _ (Builtin.SmallTypes.ownedTupleHandOut (.ref e) (.ref h1.objs.size) >>= _) _ _ ⟨k5, gs, dr, tk + 1, os⟩
  refine wpAny_bind ?_
  unfold Builtin.SmallTypes.ownedTupleHandOut
  refine wpAny_bind (wpAny_setField_rec e5 (by simp) fun k6 e6 b6 => ?_)
  have b6 : Heap.SameBut e k5 k6 := b6
  have e6 : IsEnumOut k6 e it (c + 1) x h1.objs.size := e6
  refine wpAny_setField_rec e6 (by simp) fun k7 e7 b7 => ?_
  have b7 : Heap.SameBut e k6 k7 := b7
  have e7 : IsEnumOut k7 e it (c + 1) x h1.objs.size := e7
  have up : ∀ b o, b ≠ e → k4.get? b = some o → k7.get? b = some o := fun b o nb q => b7.extBut b o nb (b6.extBut b o nb (b5.extBut b o nb q))
  exact wpAny_bind (wpAny_letGo (wpAny_pure ⟨_, rfl, hQ x h1 tk k7 hr e7 (up _ _ (Nat.ne_of_gt hel) t4) (by rw [b7.1, b6.1, b5.1, z4]) fun b o nb q => up b o nb (o4 b o nb q)⟩))
/-- enumerate's own step, over such a step of what it goes through -/
theorem enum_next {e it : Addr} {c : Int} {old : Value} {Q : Option Value → Shared → Prop} {R : Value → Heap → Nat → Prop} (he : IsEnum s.heap e it c old)
    (nx : ∀ QQ EE : Value → Shared → Prop, (∀ x h1 tk, R x h1 tk → QQ x { s with heap := h1, toks := tk }) → wpAny (model prog w) A.in1 (Builtin.SmallTypes.nextOf (.ref it)) QQ EE s)
    (hR : ∀ x h1 tk, R x h1 tk → h1.get? e = s.heap.get? e ∧ s.heap.objs.size ≤ h1.objs.size)
    (hQ : ∀ x h1 tk h2, R x h1 tk → IsEnumOut h2 e it (c + 1) x h1.objs.size → h2.get? h1.objs.size = some { cls := .type "tuple", data := .seq #[.int c tk, x] } → h2.objs.size = h1.objs.size + 1 →
      (∀ b o, b ≠ e → h1.get? b = some o → h2.get? b = some o) → Q (some (.ref h1.objs.size)) { s with heap := h2, toks := tk + 1 }) : wpAny (model prog w) A (pyNext (.ref e)) Q E s := by
  have hT : s.TypeIs (.ref e) "enumerate" := ⟨_, he, rfl⟩
  unfold pyNext
  exact wpAny_bind (wpAny_attempt (wpAny_callSpecial?_slot (name := Str.ofString "__next__") hT F.slot_enumerate_next (wpAny_call_entry F.slot_enumerate_next hT F.entry_enumerate_next
    (enum_step he nx hR fun x h1 tk h2 r a b c d => wpAny_pure (hQ x h1 tk h2 r a b c d)) (F.args_enumerate_next_1 _))))
/-! ### a zip's step, where its pair before is let go -/
abbrev ZipO (h : Heap) (z TI TO : Addr) (f0 f1 : Value) : Prop := h.get? z = some { cls := .type "zip", dict := none, data := .fields #[f0, f1, .bool false, .ref TI, .ref TO], slots := #[] }
theorem zfree_none {z TI TO : Addr} {f1 : Value} {Q : Bool → Shared → Prop} (hz : ZipO s.heap z TI TO .none f1) (q : Q true s) : wpAny (model prog w) A (Builtin.SmallTypes.ownedTupleIsFree (.ref z)) Q E s := by
  unfold Builtin.SmallTypes.ownedTupleIsFree
  exact wpAny_bind (wpAny_field hz rfl (x := .none) rfl (wpAny_pure q))
theorem zfree_gone {z TI TO T : Addr} {f1 : Value} {Q : Bool → Shared → Prop} (hz : ZipO s.heap z TI TO (rawInt T) f1) (hT : s.heap.get? T = none) (q : Q true s) : wpAny (model prog w) A (Builtin.SmallTypes.ownedTupleIsFree (.ref z)) Q E s := by
  unfold Builtin.SmallTypes.ownedTupleIsFree
  refine wpAny_bind (wpAny_field hz rfl (x := rawInt T) rfl ?_)
  show wpAny _ _ (loadIfAlive ((T : Int).toNat) >>= _) _ _ _
  rw [Int.toNat_natCast]
  have al : ∀ {R : Option Obj → Shared → Prop}, R none s → wpAny (model prog w) A (loadIfAlive T) R E s := fun {R} r => by
    have r' : R (s.heap.get? T) s := by rw [hT]; exact r
    exact fun _ _ _ => r'
  refine wpAny_bind (al ?_)
  rw [if_pos (show (none : Option Obj).isNone = true from rfl)]
  exact wpAny_pure q
/-! ### whichever way -/
/-- the state of a zip that another iterator asks: nothing handed out yet, or the pair T -/
def ZipSt (h : Heap) (z TI TO : Addr) : Prop := IsZip h z TI TO .none ∨ ∃ T f, IsZipHeld h z TI TO T f
theorem ZipSt.obj {h : Heap} {z TI TO : Addr} (x : ZipSt h z TI TO) : ∃ o vs, h.get? z = some o ∧ o.cls = .type "zip" ∧ o.data = .fields vs := by
  rcases x with e | ⟨T, f, e⟩
  · exact ⟨_, _, e, rfl, rfl⟩
  · exact ⟨_, _, e, rfl, rfl⟩
theorem ZipSt.at {h h' : Heap} {z TI TO : Addr} (x : ZipSt h z TI TO) (k : ∀ o, h.get? z = some o → h'.get? z = some o) : ZipSt h' z TI TO := x.imp (k _) fun ⟨T, f, e⟩ => ⟨T, f, k _ e⟩
theorem enum_stop {e it : Addr} {c : Int} {old : Value} {Q : Option Value → Shared → Prop} (he : IsEnum s.heap e it c old)
    (nx : ∀ QQ EE : Value → Shared → Prop, (∀ h1 x, (∃ o, h1.get? x = some o ∧ o.cls = .type "StopIteration") → Q none { s with heap := h1 } → EE (.ref x) { s with heap := h1 }) → wpAny (model prog w) A.in1 (Builtin.SmallTypes.nextOf (.ref it)) QQ EE s) : wpAny (model prog w) A (pyNext (.ref e)) Q E s := by
  have hT : s.TypeIs (.ref e) "enumerate" := ⟨_, he, rfl⟩
  unfold pyNext
  refine wpAny_bind (wpAny_attempt (wpAny_callSpecial?_slot (name := Str.ofString "__next__") hT F.slot_enumerate_next (wpAny_call_entry F.slot_enumerate_next hT F.entry_enumerate_next ?_ (F.args_enumerate_next_1 _))))
  show wpAny _ _ (field (.ref e) 2 >>= _) _ _ _
  refine wpAny_bind (wpAny_field he rfl (x := .ref it) rfl (wpAny_bind (nx _ _ fun h1 x se q => ?_)))
  obtain ⟨o, ho, hc⟩ := se
  exact wpAny_bind (wpAny_isInstance (T := "StopIteration") (b := true) ⟨o, ho, hc⟩ isSubtype_stop (wpAny_pure q))
open AutoSeq1 (wpAny_loadPart') in
theorem meets_enum_zip (z TI TO : Addr) : Meets (Builtin.«enumerate.__new__» ⟨[.type "enumerate", .ref z], []⟩) (fun _ R s => IsZip s.heap z TI TO .none ∧
      R (.ok (.ret (.ref s.heap.objs.size))) { s with heap := s.heap.push { cls := .type "enumerate", data := .fields #[.none, .bool false, .ref z, rawInt 0, .none, .none] } }) :=
  .of_wp fun prog w A R s h => by
    obtain ⟨hp, g, d, tk, os⟩ := s
    obtain ⟨hz, h⟩ := h
    have hsub := sub_enumerate
    have hz' : IsZip (Shared.heap ⟨hp, g, d, tk, os⟩) z TI TO .none := hz
    wp_walk using wpAny_loadPart' hz
    refine wpAny_stack_any fun st => wpAny_pure ?_
    split
    · rename_i c _ _ _ _ _
      cases (c == Value.type "enumerate")
      · wp_walk using wpAny_loadPart' hz, wpAny_pyIter_zip hz'
        exact ⟨_, rfl, h⟩
      · wp_walk using wpAny_loadPart' hz, wpAny_pyIter_zip hz'
        exact ⟨_, rfl, h⟩
    · wp_walk using wpAny_loadPart' hz, wpAny_pyIter_zip hz'
      exact ⟨_, rfl, h⟩
theorem call_enum_zip {z TI TO : Addr} {Q : Value → Shared → Prop} (hz : IsZip s.heap z TI TO .none)
    (q : ∀ h', IsEnum h' s.heap.objs.size z 0 .none → h'.objs.size = s.heap.objs.size + 1 → (∀ b o, s.heap.get? b = some o → h'.get? b = some o) → Q (.ref s.heap.objs.size) { s with heap := h' }) :
    wpAny (model prog w) A (call (.type "enumerate") [.ref z]) Q E s := by
  refine callType_new F.called_enumerate (by decide) (F.typeCall_enumerate_1 _) (F.newCall_enumerate_1 _) (fun obj => F.args_object_init_2 obj _) F.entry_enumerate_new (meets_enum_zip z TI TO) ⟨hz, ?_⟩
  have he : IsEnum (s.heap.push { cls := .type "enumerate", data := .fields #[.none, .bool false, .ref z, rawInt 0, .none, .none] }) s.heap.objs.size z 0 .none := Heap.get?_push_size _ rfl
  exact ⟨⟨_, he, rfl⟩, q _ he (Heap.size_push ..) fun b o x => Heap.get?_push_of_some _ x⟩
end
/-- a new object is tracked -/
theorem inv_laid2 {X : Cx} {pins : List (Addr × Obj)} {σ : L2.St} {H : Hp} {s : Shared} {a : Addr} {oe : Obj} {o : HO} (I : Inv X pins σ H s) (he : s.heap.get? a = some oe) (hd : ∀ v, oe.data ≠ .cell v) (na : H a = none) (n0 : X.s_0.heap.get? a = none) (nL : a ≠ X.env.locals) (np : ∀ p ∈ X.pn ++ pins, p.1 ≠ a)
    (ok : ObjOk X.prog X.w (upd H a o) s.heap a o) : Inv X pins σ (upd H a o) s := by
  refine ⟨I.ok, I.os, I.bare, ⟨I.base.keep, I.base.slot, fun b u e n hx => ?_, I.base.there, fun b xs e => ?_, fun b u v e => ?_, fun b ps e => ?_⟩, I.loc, I.cell, ?_, fun x c e => ?_, fun p hp => ?_, fun b u e => ?_, I.len⟩
  · rw [upd_ne (fun z => by rw [z, n0] at e; cases e)]
    exact I.base.free b u e n hx
  · have q := I.base.tups b xs e
    rw [upd_ne (ne_of_none q na)]
    exact q
  · have q := I.base.frzs b u v e
    rw [upd_ne (ne_of_none q na)]
    exact q
  · obtain ⟨m, q⟩ := I.base.tbls b ps e
    exact ⟨m, by rw [upd_ne (ne_of_none q na)]; exact q⟩
  · rw [upd_ne nL.symm]
    exact I.free
  · have nc : c ≠ a := fun z => by
      obtain ⟨v, o', ho, hv⟩ := I.cell x c e
      rw [z, he] at ho
      cases ho
      exact hd v hv
    rw [upd_ne nc]
    exact I.freeC x c e
  · obtain ⟨e, n, r⟩ := I.pin p hp
    exact ⟨e, by rw [upd_ne (np p hp)]; exact n, r⟩
  · by_cases hb : b = a
    · subst hb
      rw [upd_same] at e
      cases e
      exact ok
    · rw [upd_ne hb] at e
      exact (I.hok b u e).stay (fun _ _ _ q => q) (fun c q => by rw [upd_ne (ne_of_none q na)]; exact q) fun c xs q => by rw [upd_ne (ne_of_none q na)]; exact q
end Lk
set_option maxRecDepth 100000
set_option maxHeartbeats 4000000
namespace Lk
open PySem PySem.Spec PyProof.Rows L2

/-! ### heaps -/
theorem same_upd {H : Hp} {p : Addr} {o : HO} (h : H p = none) : Same H (upd H p o) := fun b x e => by
  rw [upd_ne (ne_of_none e h)]
  exact e
/-- all but what stands at b is as it was -/
def Oth (b : Addr) (H H' : Hp) : Prop := ∀ a o, a ≠ b → H a = some o → H' a = some o
theorem Oth.refl (b : Addr) (H : Hp) : Oth b H H := fun _ _ _ h => h
theorem Oth.trans {b : Addr} {H H1 H2 : Hp} (x : Oth b H H1) (y : Oth b H1 H2) : Oth b H H2 := fun a o n h => y a o n (x a o n h)
theorem Oth.of {b : Addr} {H H' : Hp} (x : Same H H') : Oth b H H' := fun a o _ h => x a o h
theorem Oth.upd {b : Addr} {H : Hp} {o : HO} : Oth b H (upd H b o) := fun a u n h => by rw [upd_ne n]; exact h
theorem Oth.free {b p : Addr} {H H' : Hp} (x : Oth b H H') (hb : p ≠ b) (h : H' p = none) : H p = none := by
  cases q : H p with
  | none => rfl
  | some o =>
    rw [x p o hb q] at h
    cases h
def IsBox (H : Hp) (b : Addr) : Prop := ∃ x y z : Int, H b = some (.lst [.int x, .int y, .int z])
theorem IsBox.same {H H' : Hp} {b : Addr} (x : Same H H') (h : IsBox H b) : IsBox H' b := by
  obtain ⟨i, j, k, e⟩ := h
  exact ⟨i, j, k, x _ _ e⟩
theorem IsBox.ne_tup {H : Hp} {b t : Addr} {xs : List V} (h : IsBox H b) (ht : H t = some (.tup xs)) : t ≠ b := by
  obtain ⟨i, j, k, e⟩ := h
  exact ne_of ht e (fun z => nomatch z)
theorem IsBox.ne_dT {H : Hp} {b t : Addr} {xs : List (List Key × V)} (h : IsBox H b) (ht : H t = some (.dT xs)) : t ≠ b := by
  obtain ⟨i, j, k, e⟩ := h
  exact ne_of ht e (fun z => nomatch z)
theorem IsBox.ne_strs {H : Hp} {b t : Addr} {xs : List Str} (h : IsBox H b) (ht : H t = some (.lst (xs.map V.str))) : t ≠ b := by
  obtain ⟨i, j, k, e⟩ := h
  refine ne_of ht e (fun z => ?_)
  match xs, z with
  | [], z => cases z
  | x :: r, z => cases z
theorem IsBox.ne_refs {H : Hp} {b t : Addr} {xs : List Addr} (h : IsBox H b) (ht : H t = some (.lst (xs.map V.ref))) : t ≠ b := by
  obtain ⟨i, j, k, e⟩ := h
  refine ne_of ht e (fun z => ?_)
  match xs, z with
  | [], z => cases z
  | x :: r, z => cases z
theorem IsBox.ne_none {H : Hp} {b p : Addr} (h : IsBox H b) (hp : H p = none) : p ≠ b := by
  obtain ⟨i, j, k, e⟩ := h
  exact (ne_of_none e hp).symm
theorem small9 {n : Nat} (h : n ≤ 9000) : n < sizeLine := Nat.lt_of_le_of_lt h (by decide)
theorem small_le {n : Nat} (h : n ≤ 1000) : n ≤ sizeLine := Nat.le_of_lt (small1000 h)

/-! ### slices -/
def cutL {α : Type} (xs : List α) (lo hi : Option Int) : List α := (xs.drop (HT.sIx xs.length 0 lo)).take (HT.sIx xs.length xs.length hi - HT.sIx xs.length 0 lo)
theorem cutV_map {α : Type} (f : α → V) (xs : List α) (lo hi : Option Int) : cutV (xs.map f) lo hi = (cutL xs lo hi).map f := by
  unfold cutV cutL
  rw [List.length_map, List.map_take, List.map_drop]
theorem cutL_to {α : Type} (xs : List α) (k : Nat) : cutL xs none (some (k : Int)) = xs.take k := by
  unfold cutL
  rw [HT.sIx_none, HT.sIx_nat, List.drop_zero, Nat.sub_zero]
  by_cases h : k ≤ xs.length
  · rw [Nat.min_eq_left h]
  · rw [Nat.min_eq_right (by omega), List.take_of_length_le (Nat.le_refl _), List.take_of_length_le (by omega)]
theorem cutL_from {α : Type} (xs : List α) (k : Nat) : cutL xs (some (k : Int)) none = xs.drop k := by
  unfold cutL
  rw [HT.sIx_none, HT.sIx_nat]
  by_cases h : k ≤ xs.length
  · rw [Nat.min_eq_left h, List.take_of_length_le (by rw [List.length_drop]; exact Nat.le_refl _)]
  · rw [Nat.min_eq_right (by omega), List.drop_length, List.drop_eq_nil_of_le (by omega), List.take_nil]
theorem cutL_le {α : Type} (xs : List α) (lo hi : Option Int) : (cutL xs lo hi).length ≤ xs.length := by
  unfold cutL
  rw [List.length_take, List.length_drop]
  omega
theorem cutL_has {α : Type} {xs : List α} {k : Nat} {hi : Option Int} (h : 0 < (cutL xs (some (k : Int)) hi).length) : k < xs.length := by
  unfold cutL at h
  rw [List.length_take, List.length_drop, HT.sIx_nat] at h
  omega
theorem at_map {α : Type} {f : α → V} {xs : List α} {i : Nat} {x : V} (h : (xs.map f)[i]? = some x) : ∃ y, xs[i]? = some y ∧ x = f y := by
  rw [List.getElem?_map] at h
  cases e : xs[i]? with
  | none => rw [e] at h; cases h
  | some y =>
    rw [e] at h
    exact ⟨y, rfl, (Option.some.inj h).symm⟩
theorem ix_map {α : Type} {f : α → V} {xs : List α} {i : Nat} {y : α} (h : xs[i]? = some y) : (xs.map f)[i]? = some (f y) := by
  rw [List.getElem?_map, h]
  rfl
theorem set_map {α : Type} {f : α → V} {xs : List α} {i : Nat} {y : α} : (xs.map f).set i (f y) = (xs.set i y).map f := by
  rw [List.map_set]

theorem bit01 (k : Bool) : -(2 ^ 64) < (if k = true then 1 else 0 : Int) ∧ (if k = true then 1 else 0 : Int) < 2 ^ 64 := by cases k <;> decide
theorem bit2 (k : Bool) : (0 : Int) ≤ (if k = true then 1 else 0 : Int) ∧ (if k = true then 1 else 0 : Int) ≤ 1 := by cases k <;> decide

/-! ### names of the built-in -/
structure Blt (mg : Str → Option Value) : Prop where
  len : mg "len" = none
  abs : mg "abs" = none
  int : mg "int" = none
  list : mg "list" = none
  tuple : mg "tuple" = none
  enumerate : mg "enumerate" = none
  range : mg "range" = none
  min : mg "min" = none
  max : mg "max" = none
  sorted : mg "sorted" = none
  isinstance : mg "isinstance" = none
  zip : mg "zip" = none
  all : mg "all" = none
  str : mg "str" = none
  bool : mg "bool" = none
  any : mg "any" = none
  repr : mg "repr" = none
  set : mg "set" = none
  sum : mg "sum" = none
  reversed : mg "reversed" = none
  dict : mg "dict" = none

/-! ### a def as its callers know it -/
structure Cal (P : Program) (w : World) (K : PySem.W.Frag) (mg : Str → Option Value) (base : Heap) (k : Nat) (x : Str) (ps : List Str) (sp : Sp) : Prop where
  ex : ∃ f fd, FnOk P w K mg base CX0 k f fd ps sp ∧ mg x = some (.ref f) ∧ PySem.W.keepIn K (.ref f) = true ∧ Binds K fd ps []
theorem Cal.mono {P : Program} {w : World} {K : PySem.W.Frag} {mg : Str → Option Value} {base : Heap} {j k : Nat} {x : Str} {ps : List Str} {sp : Sp} (C : Cal P w K mg base j x ps sp) (h : j ≤ k := by first | decide | omega) : Cal P w K mg base k x ps sp := by
  obtain ⟨f, fd, F, r⟩ := C.ex
  exact ⟨f, fd, F.mono h, r⟩
section
variable {X : Cx} {k n : Nat} {x : Str} {ps : List Str} {sp : Sp} {p pos : Pos} {e : Expr} {es : List Expr} {t : TA}
theorem pe_cal (C : Cal X.prog X.w X.K X.mg X.base k x ps sp) (hr : Room n X.A) (ha : PA X (e :: es) t) (hle : k ≤ n := by first | decide | omega) (hg : Gl X x := by rfl) (hdb : (x == ("__debug__" : Str)) = false := by decide)
    (he : starEach (e :: es) X.env = (false, eval e X.env) :: starEach es X.env := by rfl) (hpl : (backTo pos (starEach es X.env)).any (·.1) = false := by rfl) :
    PE X (.Call (.Name x p) (e :: es) [] pos) (tCall sp [] E0 t) := by
  obtain ⟨f, fd, F, hm, hk, hb⟩ := C.ex
  exact pe_call F (hr.mono hle) hg hm hk hb .nil pass0 ha (hdb := hdb) (he := he) (hpl := hpl)
end

/-! ### drawing -/
def spTake : Sp := fun vs H Q _ => ∃ (b : Addr) (many : Int), vs = [.ref b, .int many] ∧ IsBox H b ∧ 0 < many ∧ many < 1073741824 ∧
  ∀ (v : Int) (H' : Hp), Oth b H H' → IsBox H' b → 0 ≤ v → v < many → Q (.int v) H'
def spBox : Sp := fun vs H Q _ => ∃ (a : Addr) (ns : List Int) (k : Nat), vs = [.ref a, .int k] ∧ H a = some (.lst (ns.map V.int)) ∧ k < ns.length ∧ k < 1000 ∧
  ∀ (b : Addr) (H' : Hp), Same H H' → H b = none → IsBox H' b → Q (.ref b) H'
def spCells (K : PySem.W.Frag) : Sp := fun vs H Q _ => ∃ (a : Addr) (ns : List Int) (u : Nat), vs = [.ref a, .int u] ∧ SqL K H a (ns.map V.int) ∧ ns.length ≤ 63 ∧ 0 < u ∧ u ≤ 3 ∧
  ∀ (c : Addr) (ms : List Int) (H' : Hp), Same H H' → H c = none → H' c = some (.lst (ms.map V.int)) → 0 < ms.length → ms.length ≤ 3 → Q (.ref c) H'
end Lk
set_option maxRecDepth 100000
set_option maxHeartbeats 4000000
namespace Lk
open PySem PySem.Spec PyProof.Rows L2

/-! ### texts and names -/
abbrev tlx (x : Str) : List Nat := x.cps.toList
theorem len_tlx (x : Str) : x.length = (tlx x).length := by
  show x.cps.size = x.cps.toList.length
  rw [Array.length_toList]
theorem tlx_app (x y : Str) : tlx (x ++ y) = tlx x ++ tlx y := by
  show (x.cps ++ y.cps).toList = _
  rw [Array.toList_append]
theorem str_ext {x y : Str} (h : tlx x = tlx y) : x = y := by
  obtain ⟨a⟩ := x
  obtain ⟨b⟩ := y
  have e : a = b := Array.toList_inj.mp h
  rw [e]
def Low (l : List Nat) : Prop := ∀ c ∈ l, 97 ≤ c ∧ c ≤ 122
def NameOk (x : Str) : Prop := 1 ≤ (tlx x).length ∧ (tlx x).length ≤ 8 ∧ Low (tlx x)
theorem NameOk.len {x : Str} (h : NameOk x) : x.length ≤ 8 := by rw [len_tlx]; exact h.2.1
def Good (x : Str) : Prop := PyData.strOk x = true
def Goods (xs : List Str) : Prop := ∀ x ∈ xs, Good x
theorem NameOk.good {x : Str} (h : NameOk x) : Good x := by
  show x.cps.all (· < 0x110000) = true
  rw [← Array.all_toList, List.all_eq_true]
  intro c hc
  have q := h.2.2 c hc
  exact decide_eq_true (by omega)
theorem lmin_good {x y : Str} (hx : Good x) (hy : Good y) : Good (lmin x y) := by
  unfold lmin
  split
  · exact hy
  · exact hx
theorem lmax_good {x y : Str} (hx : Good x) (hy : Good y) : Good (lmax x y) := by
  unfold lmax
  split
  · exact hy
  · exact hx
def abc : Str := "abcdefghijklmnopqrstuvwxyz"
theorem abc_at : ∀ i : Nat, i < 26 → (tlx abc)[i]? = some (97 + i) := by decide +kernel
theorem abc_len : abc.length = 26 := by decide +kernel
theorem abc_ix {i : Int} (h0 : 0 ≤ i) (h1 : i < 26) : atI (tlx abc) i = some (97 + i.toNat) := by
  have e : i = ((i.toNat : Nat) : Int) := by omega
  have q := atI_nat (abc_at i.toNat (by omega))
  rw [← e] at q
  exact q
theorem Low.one {n : Nat} (h : n < 26) : Low [97 + n] := fun c hc => by
  have e : c = 97 + n := by simpa using hc
  omega
theorem join0 : ∀ ys : List Str, tlx (Txt.join ("" : Str) ys) = (ys.map tlx).flatten := by
  intro ys
  rw [TL.join_eq]
  refine (TL.tl_join _ _).trans ?_
  have e : TL.tl ("" : Str) = [] := by decide +kernel
  rw [e]
  have g : ∀ l : List (List Nat), TL.joinL [] l = l.flatten := by
    intro l
    induction l with
    | nil => rfl
    | cons a r ih =>
      cases r with
      | nil => simp [TL.joinL]
      | cons b r =>
        show a ++ ([] ++ TL.joinL [] (b :: r)) = _
        rw [ih]
        simp
  exact g (ys.map TL.tl)
def IsOne (x : Str) : Prop := ∃ n : Nat, n < 26 ∧ x = ⟨#[97 + n]⟩
theorem ones_flat : ∀ {ys : List Str}, (∀ y ∈ ys, IsOne y) → ((ys.map tlx).flatten).length = ys.length ∧ Low (ys.map tlx).flatten
  | [], _ => ⟨rfl, fun _ h => nomatch h⟩
  | y :: r, h => by
    obtain ⟨e1, e2⟩ := ones_flat (ys := r) fun z hz => h z (List.mem_cons_of_mem _ hz)
    obtain ⟨n, hn, rfl⟩ := h y List.mem_cons_self
    constructor
    · rw [List.map_cons, List.flatten_cons, List.length_append, e1]
      simp
      omega
    · rw [List.map_cons, List.flatten_cons]
      intro c hc
      rcases List.mem_append.mp hc with q | q
      · have e : c = 97 + n := by simpa using q
        omega
      · exact e2 c q
theorem ones_len : ∀ {ys : List Str}, (∀ y ∈ ys, IsOne y) → (ys.map (·.length)).sum = ys.length
  | [], _ => rfl
  | y :: r, h => by
    have ih := ones_len (ys := r) fun z hz => h z (List.mem_cons_of_mem _ hz)
    obtain ⟨n, hn, rfl⟩ := h y List.mem_cons_self
    rw [List.map_cons, List.sum_cons, ih, List.length_cons]
    show 1 + r.length = _
    omega
theorem cutS_tlx (z : Str) (lo hi : Option Int) : tlx (cutS z lo hi) = cutL (tlx z) lo hi := by
  unfold cutS cutL
  show (List.toArray _).toList = _
  rw [List.toList_toArray, len_tlx]
theorem Low.cut {l : List Nat} {lo hi : Option Int} (h : Low l) : Low (cutL l lo hi) := fun c hc => h c (List.mem_of_mem_drop (List.mem_of_mem_take hc))
theorem Low.app {l m : List Nat} (h : Low l) (h' : Low m) : Low (l ++ m) := fun c hc => (List.mem_append.mp hc).elim (h c) (h' c)
theorem apart {step : Int} (hs : step = 1 ∨ step = 3 ∨ step = 7 ∨ step = 25) {i j : Nat} (h : j < i) (hi : i < 26) (f : Int) : (f + step * (i : Int)) % 26 ≠ (f + step * (j : Int)) % 26 := by
  rcases hs with rfl | rfl | rfl | rfl <;> omega
/-- a text's last sign -/
def lastC (x : Str) : Option Nat := (tlx x).getLast?
theorem lastC_app (x : Str) (n : Nat) : lastC (x ++ ⟨#[n]⟩) = some n := by
  unfold lastC
  rw [tlx_app]
  simp
theorem ins_perm {α : Type} (l : List α) (p : Nat) (x : α) : (l.take p ++ [x] ++ l.drop p).Perm (x :: l) := by
  have e : l.take p ++ [x] ++ l.drop p = l.take p ++ x :: l.drop p := by simp
  rw [e]
  refine List.perm_middle.trans ?_
  rw [List.take_append_drop]
theorem ins_map {α : Type} (f : α → V) (l : List α) (p : Nat) (x : α) : (l.map f).take p ++ [f x] ++ (l.map f).drop p = (l.take p ++ [x] ++ l.drop p).map f := by
  rw [List.map_append, List.map_append, List.map_take, List.map_drop]
  rfl

/-! ### the order of texts -/
theorem lmin_or (x y : Str) : (lmin x y = x ∧ lmax x y = y) ∨ (lmin x y = y ∧ lmax x y = x) := by
  unfold lmin lmax
  by_cases h : y.cps.toList < x.cps.toList
  · rw [if_pos h, if_neg (List.lt_asymm h)]
    exact .inr ⟨rfl, rfl⟩
  · rw [if_neg h]
    by_cases h2 : x.cps.toList < y.cps.toList
    · rw [if_pos h2]
      exact .inl ⟨rfl, rfl⟩
    · rw [if_neg h2]
      have e : x = y := str_ext (List.le_antisymm h h2)
      subst e
      exact .inl ⟨rfl, rfl⟩
theorem lpair_comm (x y : Str) : (lmin x y, lmax x y) = (lmin y x, lmax y x) := by
  unfold lmin lmax
  by_cases h : y.cps.toList < x.cps.toList
  · rw [if_pos h, if_neg (List.lt_asymm h), if_neg (List.lt_asymm h), if_pos h]
  · by_cases h2 : x.cps.toList < y.cps.toList
    · rw [if_neg h, if_pos h2, if_pos h2, if_neg h]
    · have e : x = y := str_ext (List.le_antisymm h h2)
      subst e
      rfl
/-- friends, as a law has them: each pair a least and a greatest -/
def PalsOk (ps : List (Str × Str)) : Prop := ∀ p ∈ ps, ∃ m q, Good m ∧ Good q ∧ p = (lmin m q, lmax m q)
def frd (ps : List (Str × Str)) (a b : Str) : Bool := decide ((a, b) ∈ ps ∨ (b, a) ∈ ps)
theorem frd_comm (ps : List (Str × Str)) (a b : Str) : frd ps a b = frd ps b a := by
  unfold frd
  exact decide_eq_decide.mpr Or.comm
theorem frd_pair {ps : List (Str × Str)} (h : PalsOk ps) (a b : Str) : decide ((lmin a b, lmax a b) ∈ ps) = frd ps a b := by
  unfold frd
  refine decide_eq_decide.mpr ⟨fun q => ?_, fun q => ?_⟩
  · rcases lmin_or a b with ⟨e1, e2⟩ | ⟨e1, e2⟩
    · rw [e1, e2] at q; exact .inl q
    · rw [e1, e2] at q; exact .inr q
  · rcases q with q | q
    · obtain ⟨m, n, _, _, e⟩ := h _ q
      have e1 : a = lmin m n := (Prod.mk.inj e).1
      have e2 : b = lmax m n := (Prod.mk.inj e).2
      rcases lmin_or m n with ⟨f1, f2⟩ | ⟨f1, f2⟩
      · rw [f1] at e1; rw [f2] at e2; subst e1 e2; rw [← e]; exact q
      · rw [f1] at e1; rw [f2] at e2; subst e1 e2; rw [lpair_comm, ← e]; exact q
    · obtain ⟨m, n, _, _, e⟩ := h _ q
      have e1 : b = lmin m n := (Prod.mk.inj e).1
      have e2 : a = lmax m n := (Prod.mk.inj e).2
      rcases lmin_or m n with ⟨f1, f2⟩ | ⟨f1, f2⟩
      · rw [f1] at e1; rw [f2] at e2; subst e1 e2; rw [lpair_comm, ← e]; exact q
      · rw [f1] at e1; rw [f2] at e2; subst e1 e2; rw [← e]; exact q

theorem menu4 {v : Int} (h0 : 0 ≤ v) (h1 : v < 4) : ∃ step : Int, (step = 1 ∨ step = 3 ∨ step = 7 ∨ step = 25) ∧ atI [V.int 1, V.int 3, V.int 7, V.int 25] v = some (.int step) := by
  have e : v = 0 ∨ v = 1 ∨ v = 2 ∨ v = 3 := by omega
  rcases e with rfl | rfl | rfl | rfl
  · exact ⟨1, by simp, rfl⟩
  · exact ⟨3, by simp, rfl⟩
  · exact ⟨7, by simp, rfl⟩
  · exact ⟨25, by simp, rfl⟩
theorem name_ok {stem : Str} {hi : Option Int} {n : Nat} (h1 : (tlx stem).length ≤ 7) (h2 : Low (tlx stem)) (hn : n < 26) : NameOk (cutS stem none hi ++ ⟨#[97 + n]⟩) := by
  have e : tlx (cutS stem none hi ++ ⟨#[97 + n]⟩) = cutL (tlx stem) none hi ++ [97 + n] := by rw [tlx_app, cutS_tlx]
  have q := cutL_le (tlx stem) none hi
  refine ⟨?_, ?_, ?_⟩
  · rw [e]; simp
  · rw [e, List.length_append, List.length_singleton]; omega
  · rw [e]; exact (Low.cut h2).app (Low.one hn)

/-! ### friends as they stand -/
abbrev B3 := Addr × Str × Str
def refs (bs : List B3) : List V := bs.map fun b => V.ref b.1
def PairsAt (H : Hp) (bs : List B3) : Prop := ∀ b ∈ bs, H b.1 = some (.tup [.str b.2.1, .str b.2.2])
theorem PairsAt.same {H H' : Hp} {bs : List B3} (s : Same H H') (h : PairsAt H bs) : PairsAt H' bs := fun b hb => s _ _ (h b hb)
theorem PairsAt.oth {H H' : Hp} {b : Addr} {bs : List B3} (s : Oth b H H') (hb : IsBox H b) (h : PairsAt H bs) : PairsAt H' bs := fun c hc => s _ _ (hb.ne_tup (h c hc)) (h c hc)
/-- a target for a tuple or a list -/
def gOrM (t u : TG) : TG := fun v σ H Q => t v σ H Q ∨ u v σ H Q
theorem pg_orM {X : Cx} {tg : Expr} {t u : TG} (a : PG X tg t) (b : PG X tg u) : PG X tg (gOrM t u) := pg_or2 a b
/-- .. or as lists of two -/
def PairsB (H : Hp) (bs : List B3) : Prop := ∀ b ∈ bs, H b.1 = some (.tup [.str b.2.1, .str b.2.2]) ∨ H b.1 = some (.lst [.str b.2.1, .str b.2.2])
theorem PairsAt.b {H : Hp} {bs : List B3} (h : PairsAt H bs) : PairsB H bs := fun c hc => .inl (h c hc)
theorem PairsB.same {H H' : Hp} {bs : List B3} (s : Same H H') (h : PairsB H bs) : PairsB H' bs := fun b hb => (h b hb).imp (s _ _) (s _ _)
/-- FRIENDS as a tuple -/
def PalsAt (H : Hp) (a : Addr) (ps : List (Str × Str)) : Prop := ∃ bs : List B3, H a = some (.tup (refs bs)) ∧ PairsAt H bs ∧ ps = bs.map (·.2)
theorem PalsAt.same {H H' : Hp} {a : Addr} {ps : List (Str × Str)} (s : Same H H') (h : PalsAt H a ps) : PalsAt H' a ps := by
  obtain ⟨bs, h1, h2, h3⟩ := h
  exact ⟨bs, s _ _ h1, h2.same s, h3⟩
theorem PalsAt.oth {H H' : Hp} {a b : Addr} {ps : List (Str × Str)} (s : Oth b H H') (hb : IsBox H b) (h : PalsAt H a ps) : PalsAt H' a ps := by
  obtain ⟨bs, h1, h2, h3⟩ := h
  exact ⟨bs, s _ _ (hb.ne_tup h1) h1, h2.oth s hb, h3⟩
/-- .. or a list of these -/
def FrAt (H : Hp) (a : Addr) (ps : List (Str × Str)) : Prop := ∃ bs : List B3, (H a = some (.tup (refs bs)) ∨ H a = some (.lst (refs bs))) ∧ PairsB H bs ∧ ps = bs.map (·.2)
theorem PalsAt.fr {H : Hp} {a : Addr} {ps : List (Str × Str)} (h : PalsAt H a ps) : FrAt H a ps := by
  obtain ⟨bs, h1, h2, h3⟩ := h
  exact ⟨bs, .inl h1, h2.b, h3⟩
theorem FrAt.same {H H' : Hp} {a : Addr} {ps : List (Str × Str)} (s : Same H H') (h : FrAt H a ps) : FrAt H' a ps := by
  obtain ⟨bs, h1, h2, h3⟩ := h
  exact ⟨bs, h1.elim (fun e => .inl (s _ _ e)) (fun e => .inr (s _ _ e)), h2.same s, h3⟩
/-- what _law_pals tells of a pair -/
def OfPool (pool : List Str) (ps : List (Str × Str)) : Prop := ∀ p ∈ ps, ∃ m q, m ∈ pool ∧ q ∈ pool ∧ m ≠ q ∧ p = (lmin m q, lmax m q)
theorem OfPool.ok {pool : List Str} {ps : List (Str × Str)} (h : OfPool pool ps) (hg : Goods pool) : PalsOk ps := fun p hp => by
  obtain ⟨m, q, h1, h2, _, e⟩ := h p hp
  exact ⟨m, q, hg m h1, hg q h2, e⟩
theorem OfPool.irr {pool : List Str} {ps : List (Str × Str)} (h : OfPool pool ps) (x : Str) : frd ps x x = false := by
  unfold frd
  refine decide_eq_false fun z => ?_
  have z' : (x, x) ∈ ps := z.elim id id
  obtain ⟨m, q, _, _, ne, e⟩ := h _ z'
  have e1 := (Prod.mk.inj e).1
  have e2 := (Prod.mk.inj e).2
  rcases lmin_or m q with ⟨f1, f2⟩ | ⟨f1, f2⟩
  · exact ne ((f1.symm.trans e1.symm).trans (e2.trans f2))
  · exact ne ((f2.symm.trans e2.symm).trans (e1.trans f1))
def PGood (ps : List (Str × Str)) : Prop := ∀ p ∈ ps, Good p.1 ∧ Good p.2
theorem PalsOk.good {ps : List (Str × Str)} (h : PalsOk ps) : PGood ps := fun p hp => by
  obtain ⟨m, q, h1, h2, e⟩ := h p hp
  rw [e]
  exact ⟨lmin_good h1 h2, lmax_good h1 h2⟩
def spPals : Sp := fun vs H Q _ => ∃ (b l : Addr) (pool : List Str), vs = [.ref b, .ref l] ∧ IsBox H b ∧ H l = some (.lst (pool.map V.str)) ∧ pool.Nodup ∧ pool.length ≤ 26 ∧
  ∀ (a : Addr) (bs : List B3) (H' : Hp), Oth b H H' → IsBox H' b → H a = none → H' a = some (.tup (refs bs)) → PairsAt H' bs → OfPool pool (bs.map (·.2)) → bs.length ≤ 1000 → (∃ cs : List B3, bs = cs.mergeSort (PySem.W.dataLe false encP)) → Q (.ref a) H'

def spNames : Sp := fun vs H Q _ => ∃ (b : Addr) (many : Nat), vs = [.ref b, .int many] ∧ IsBox H b ∧ many ≤ 26 ∧
  ∀ (l : Addr) (names : List Str) (H' : Hp), Oth b H H' → IsBox H' b → H l = none → H' l = some (.lst (names.map V.str)) → names.length = many → names.Nodup → (∀ x ∈ names, NameOk x) → Q (.ref l) H'
end Lk
set_option maxRecDepth 100000
set_option maxHeartbeats 4000000
namespace Lk
open PySem PySem.Spec PyProof.Rows L2
theorem u65 {k : Nat} {A : Around} (r : Room k A) : A.units + 65 < cLine := by have := r.un; omega

/-! ### data -/
def encQ (p : Str × Str) : PyData := .tuple [.str p.1, .str p.2]
theorem eqv_strs : ∀ xs ys : List Str, PyData.eqvAll (xs.map .str) (ys.map .str) = decide (xs = ys)
  | [], [] => by simp [PyData.eqvAll]
  | [], _ :: _ => by simp [PyData.eqvAll]
  | _ :: _, [] => by simp [PyData.eqvAll]
  | x :: xs, y :: ys => by
    rw [List.map_cons, List.map_cons, PyData.eqvAll, eqv_strs xs ys]
    by_cases h : x = y
    · subst h
      simp [PyData.eqv]
    · simp [PyData.eqv, h]
theorem eqv_pair (p q : Str × Str) : PyData.eqv (encQ p) (encQ q) = decide (p = q) := by
  obtain ⟨a, b⟩ := p
  obtain ⟨c, d⟩ := q
  have e := eqv_strs [a, b] [c, d]
  have e2 : PyData.eqv (encQ (a, b)) (encQ (c, d)) = PyData.eqvAll ([a, b].map .str) ([c, d].map .str) := by simp [encQ, PyData.eqv]
  rw [e2, e]
  refine decide_eq_decide.mpr ?_
  simp
theorem lay_strs : ∀ {xs : List Str}, Goods xs → PyData.canLayAll0 (xs.map .str) = true
  | [], _ => by simp [PyData.canLayAll0]
  | x :: xs, h => by
    have h1 : PyData.strOk x = true := h x List.mem_cons_self
    simp [PyData.canLayAll0, PyData.canLay0, h1, lay_strs (xs := xs) fun y hy => h y (List.mem_cons_of_mem _ hy)]
theorem dep_strs : ∀ xs : List Str, PyData.depthAll (xs.map .str) = 0
  | [] => by simp [PyData.depthAll]
  | x :: xs => by simp [PyData.depthAll, PyData.depth, dep_strs xs]
theorem sh_list {xs : List Str} (h : Goods xs) : SeqAt.shaped (.list (xs.map .str)) = true := by
  show (PyData.canLay0 (.list (xs.map .str)) && decide (PyData.depth (.list (xs.map .str)) ≤ 64)) = true
  simp [PyData.canLay0, PyData.depth, lay_strs h, dep_strs]
theorem sh_tuple {xs : List Str} (h : Goods xs) : SeqAt.shaped (.tuple (xs.map .str)) = true := by
  show (PyData.canLay0 (.tuple (xs.map .str)) && decide (PyData.depth (.tuple (xs.map .str)) ≤ 64)) = true
  simp [PyData.canLay0, PyData.depth, lay_strs h, dep_strs]
theorem lay_pairs : ∀ {ps : List (Str × Str)}, PGood ps → PyData.canLayAll0 (ps.map encQ) = true
  | [], _ => by simp [PyData.canLayAll0]
  | p :: ps, h => by
    have h1 : PyData.strOk p.1 = true := (h p List.mem_cons_self).1
    have h2 : PyData.strOk p.2 = true := (h p List.mem_cons_self).2
    simp [PyData.canLayAll0, PyData.canLay0, encQ, h1, h2, lay_pairs (ps := ps) fun y hy => h y (List.mem_cons_of_mem _ hy)]
theorem dep_pairs : ∀ ps : List (Str × Str), PyData.depthAll (ps.map encQ) ≤ 1
  | [] => by simp [PyData.depthAll]
  | p :: ps => by
    have := dep_pairs ps
    simp only [List.map_cons, PyData.depthAll, encQ, PyData.depth]
    omega
theorem sh_pals {ps : List (Str × Str)} (h : PGood ps) : SeqAt.shaped (.tuple (ps.map encQ)) = true := by
  show (PyData.canLay0 (.tuple (ps.map encQ)) && decide (PyData.depth (.tuple (ps.map encQ)) ≤ 64)) = true
  have := dep_pairs ps
  have e : PyData.depth (.tuple (ps.map encQ)) ≤ 64 := by
    simp only [PyData.depth]
    omega
  rw [decide_eq_true e, Bool.and_true]
  simp only [PyData.canLay0]
  exact lay_pairs h
theorem goods2 {x y : Str} (hx : Good x) (hy : Good y) : Goods [x, y] := fun z hz => by
  rcases List.mem_cons.mp hz with rfl | hz
  · exact hx
  · have e : z = y := by simpa using hz
    rw [e]
    exact hy
theorem sh_pair {p : Str × Str} (h : Good p.1 ∧ Good p.2) : SeqAt.shaped (encQ p) = true := sh_tuple (xs := [p.1, p.2]) (goods2 h.1 h.2)
section
variable {K : PySem.W.Frag} {H : Hp}
theorem dp_strs : ∀ xs : List Str, DpAll K H (xs.map V.str) (xs.map .str)
  | [] => .nil
  | x :: xs => .cons (.str x) (dp_strs xs)
theorem dp_list {a : Addr} {xs : List Str} (h : H a = some (.lst (xs.map V.str))) : Dp K H (.ref a) (.list (xs.map .str)) := .lst (.inl (.inl h)) (dp_strs xs)
theorem dp_tuple {a : Addr} {xs : List Str} (h : H a = some (.tup (xs.map V.str))) : Dp K H (.ref a) (.tuple (xs.map .str)) := .tup (.inl (.inl h)) (dp_strs xs)
theorem dp_pairs : ∀ {bs : List B3}, PairsAt H bs → DpAll K H (refs bs) ((bs.map (·.2)).map encQ)
  | [], _ => .nil
  | b :: bs, h => .cons (dp_tuple (xs := [b.2.1, b.2.2]) (h b List.mem_cons_self)) (dp_pairs (bs := bs) fun c hc => h c (List.mem_cons_of_mem _ hc))
theorem dp_pals {a : Addr} {ps : List (Str × Str)} (h : PalsAt H a ps) : Dp K H (.ref a) (.tuple (ps.map encQ)) := by
  obtain ⟨bs, h1, h2, rfl⟩ := h
  exact .tup (.inl (.inl h1)) (dp_pairs h2)
end
theorem any_pair (ps : List (Str × Str)) (p : Str × Str) : ((ps.map encQ).any fun z => PyData.eqv z (encQ p)) = decide (p ∈ ps) := by
  rw [List.any_map]
  induction ps with
  | nil => rfl
  | cons q r ih =>
    rw [List.any_cons, ih]
    show (PyData.eqv (encQ q) (encQ p) || _) = _
    rw [eqv_pair]
    by_cases h : q = p
    · subst h
      simp
    · have h' : ¬ p = q := fun z => h z.symm
      simp [h, h']

/-! ### tuples whose object is known to have no dict: their methods may be called -/
def TupAt (H : Hp) (t : Addr) (xs : List V) : Prop := ∃ o : Obj, o.dict = none ∧ H t = some (.frz o (.tup xs))
theorem TupAt.same {H H' : Hp} {t : Addr} {xs : List V} (s : Same H H') (h : TupAt H t xs) : TupAt H' t xs := by
  obtain ⟨o, h1, h2⟩ := h
  exact ⟨o, h1, s _ _ h2⟩
theorem TupAt.sq {K : PySem.W.Frag} {H : Hp} {t : Addr} {xs : List V} (h : TupAt H t xs) : SqT K H t xs := by
  obtain ⟨o, _, h2⟩ := h
  exact .inl (.inr ⟨o, h2⟩)
theorem TupAt.ne {H : Hp} {b t : Addr} {xs : List V} (h : TupAt H t xs) (hb : IsBox H b) : t ≠ b := by
  obtain ⟨o, _, h2⟩ := h
  obtain ⟨i, j, k, e⟩ := hb
  exact ne_of h2 e (fun z => nomatch z)
theorem TupAt.ne_new {H : Hp} {p t : Addr} {xs : List V} (h : TupAt H t xs) (hp : H p = none) : t ≠ p := by
  obtain ⟨o, _, h2⟩ := h
  exact ne_of_none h2 hp
theorem TupAt.oth {H H' : Hp} {b t : Addr} {xs : List V} (s : Oth b H H') (hb : IsBox H b) (h : TupAt H t xs) : TupAt H' t xs := by
  have n := h.ne hb
  obtain ⟨o, h1, h2⟩ := h
  exact ⟨o, h1, s _ _ n h2⟩
/-- all but what stands at l, as it was -/
theorem TupAt.upd_ {H : Hp} {l t : Addr} {xs ys : List V} {o' : HO} (h : TupAt H t xs) (hl : H l = some (.lst ys)) : TupAt (upd H l o') t xs := by
  obtain ⟨o, h1, h2⟩ := h
  exact ⟨o, h1, (upd_ne (ne_of h2 hl (fun z => nomatch z))).trans h2⟩
theorem cutV_whole {xs : List V} {lo hi : Option Int} (h : HT.sIx xs.length 0 lo = 0 ∧ HT.sIx xs.length xs.length hi = xs.length) : cutV xs lo hi = xs := by
  unfold cutV
  rw [h.1, h.2, List.drop_zero, Nat.sub_zero, List.take_of_length_le (Nat.le_refl _)]
section
variable {X : Cx}
theorem laid_tup {pins : List (Addr × Obj)} {σ : L2.St} {H : Hp} {s : Shared} {xs : List V} {its : List Value} (I : Inv X pins σ H s) (hz : xs.length ≤ sizeLine) (r : Vals xs its) :
    Inv X pins σ (upd H s.heap.objs.size (.frz { cls := .type "tuple", data := .seq its.toArray } (.tup xs))) { s with heap := s.heap.push { cls := .type "tuple", data := .seq its.toArray } } :=
  I.laid (t' := s.toks) (fun b ob q => Heap.get?_push_of_some _ q) (Nat.le_refl _) ⟨Heap.get?_push_size _ rfl, hz, its, r, IsTup.new _ _⟩
def tTupF (t : TA) : TE := fun σ H Q => t σ H fun xs H1 => xs.length ≤ sizeLine ∧ ∀ p H', Same H1 H' → H1 p = none → TupAt H' p xs → Q (.ref p) H'
theorem pe_tupF {es : List Expr} {t : TA} {pos : Pos} {x1} (h : PA X es t) : PE X (.Tuple es x1 pos) (tTupF t) := by
  refine ⟨fun pins s σ H Q I hq => ?_⟩
  refine wpAny_Tuple_spliced (thn (h.run pos pins s σ H _ I hq) fun us s1 ⟨xs, H1, I1, r, z, q⟩ => ⟨by rw [← r.length]; exact z, ?_⟩)
  have hf : H1 s1.heap.objs.size = none := I1.hok.fresh (Nat.le_refl _)
  exact ⟨.ref s1.heap.objs.size, _, laid_tup I1 z r, rfl, q _ _ (same_upd hf) hf ⟨_, rfl, upd_same⟩⟩
theorem call_tupleF : CallR X (.type "tuple") (fun xs H Q => ∃ p ys, xs = [.ref p] ∧ ((SqL X.K H p ys ∧ ∀ l H', Same H H' → H l = none → TupAt H' l ys → Q (.ref l) H') ∨ (SqT X.K H p ys ∧ Q (.ref p) H))) := by
  intro pins s σ H xs us Q I r h
  obtain ⟨p, ys, rfl, h⟩ := h
  obtain ⟨u, rfl, rx⟩ := vals1 r
  cases rx
  rcases h with ⟨hq, q⟩ | ⟨hq, q⟩
  · obtain ⟨its, r', pl, hz⟩ := I.list hq
    have hlen := r'.length
    refine call_tuple_list pl.isList (fun h' kp => ?_) (by simp only [List.size_toArray] <;> omega)
    have I1 : Inv X pins σ H { s with heap := h' } := I.kept (t' := s.toks) kp
    have hf := I1.hok.fresh (Nat.le_refl _)
    exact ⟨.ref h'.objs.size, _, laid_tup I1 hz r', rfl, q _ _ (same_upd hf) hf ⟨_, rfl, upd_same⟩⟩
  · obtain ⟨its, r', pl, hz⟩ := I.tuple hq
    exact call_tuple_same pl ⟨.ref p, H, I, rfl, q⟩
def rSlM : V → Option Int → Option Int → Hp → VK → Prop := fun x lo hi H Q => ∃ a xs, x = .ref a ∧ TupAt H a xs ∧ ∀ t H', Same H H' → TupAt H' t (cutV xs lo hi) → Q (.ref t) H'
theorem sl_tupM : SlR X rSlM := by
  intro pins s σ H x v vl vu lo hi sl Q I rx hs pl pu h
  obtain ⟨a, xs, rfl, ha, q⟩ := h
  by_cases hw : HT.sIx xs.length 0 lo = 0 ∧ HT.sIx xs.length xs.length hi = xs.length
  · exact sl_tupA pins s σ H _ v vl vu lo hi sl Q I rx hs pl pu ⟨a, xs, rfl, ha.sq, fun _ => q a H (Same.refl H) (by rw [cutV_whole hw]; exact ha), fun z => absurd hw z⟩
  · cases rx
    obtain ⟨its, r, ht, hz⟩ := I.tuple (ha.sq (K := X.K))
    have hlen : its.toArray.size = xs.length := by rw [List.size_toArray]; exact r.length.symm
    refine ⟨"tuple", _, PyProof.Rows.slot_tuple_getitem.lookup, ht.typeIs, ?_⟩
    refine HT.getItem_tuple_cut ht hs pl pu (by rw [hlen]; exact hw) ?_ (by rw [hlen]; exact hz)
    rw [hlen]
    have hf : H s.heap.objs.size = none := I.hok.fresh (Nat.le_refl _)
    exact ⟨.ref s.heap.objs.size, _, laid_tup (xs := cutV xs lo hi) I (Nat.le_trans (cutV_length xs lo hi) hz) ((r.drop (HT.sIx xs.length 0 lo)).take (HT.sIx xs.length xs.length hi - HT.sIx xs.length 0 lo)), rfl, q _ _ (same_upd hf) ⟨_, rfl, upd_same⟩⟩
def rCatM : R2 := fun x y H Q => ∃ a b xs ys, x = .ref a ∧ y = .ref b ∧ TupAt H a xs ∧ TupAt H b ys ∧ xs.length + ys.length ≤ sizeLine ∧ ∀ t H', Same H H' → TupAt H' t (xs ++ ys) → Q (.ref t) H'
theorem op_catM : OpR X (binaryOp .Add) rCatM := by
  intro pins s σ H x y v u Q I rx ry h
  obtain ⟨a, b, xs, ys, rfl, rfl, ha, hb, hz, q⟩ := h
  cases rx
  cases ry
  obtain ⟨its, r1, p1, _⟩ := I.tuple (ha.sq (K := X.K))
  obtain ⟨its2, r2, p2, _⟩ := I.tuple (hb.sq (K := X.K))
  by_cases hx : xs = []
  · subst hx
    cases r1
    exact cat_tup0 p1 p2 ⟨.ref b, H, I, rfl, q b H (Same.refl H) hb⟩
  · refine HT.cat_tup p1 p2 (fun z => hx (r1.nil_iff.mp z)) (fun z => ⟨.ref a, H, I, rfl, q a H (Same.refl H) ?_⟩) (fun z => ?_) (by rw [← r1.length, ← r2.length]; exact hz)
    · rw [r2.nil_iff.mp z, List.append_nil]
      exact ha
    · have hf : H s.heap.objs.size = none := I.hok.fresh (Nat.le_refl _)
      exact ⟨.ref s.heap.objs.size, _, laid_tup (xs := xs ++ ys) I (by rw [List.length_append]; exact hz) (r1.append r2), rfl, q _ _ (same_upd hf) ⟨_, rfl, upd_same⟩⟩
/-- o.m(e, ..) of such a tuple -/
def tBMT (r : V → List V → Hp → VK → Prop) (to : TE) (t : TA) : TE := fun σ H Q => to σ H fun x H1 => (∃ a xs, x = .ref a ∧ TupAt H1 a xs) ∧ t σ H1 fun xs H2 => r x xs H2 Q
theorem pe_bmT {o e : Expr} {es : List Expr} {to : TE} {t : TA} {name : Str} {apos cpos : Pos} {id : String} {r : V → List V → Hp → VK → Prop} (slot : Slot "tuple" name id) (hty : typeOf (.builtin id) = pure (.type "method_descriptor")) (hm : MtR X id r) (ho : PE X o to) (ha : PA X (e :: es) t)
    (hbase : attributeBase o name X.env (eval o X.env) = eval o X.env := by rfl)
    (hfew : ((backTo cpos (starEach (e :: es) X.env)).all (fun x => !x.1) && (backToKw cpos (keywordEach [] X.env)).all (fun x => x.1.isSome)
      && decide ((e :: es).length + ([] : List Keyword).length + (if ([] : List Keyword).isEmpty then 0 else 1) < 30)) = true := by rfl)
    (hline : (apos.endLine == cpos.line) = true := by rfl) (hs : starEach (e :: es) X.env = (false, eval e X.env) :: starEach es X.env := by rfl) (hplain : (backTo cpos (starEach es X.env)).any (·.1) = false := by rfl) :
    PE X (.Call (.Attribute o name apos) (e :: es) [] cpos) (tBMT r to t) := by
  refine ⟨fun pins s σ H Q I h => ?_⟩
  refine wpAny_Call_method_late hbase hfew hline rfl (thn (ho.run pins s σ H _ I h) fun v s1 ⟨x, H1, I1, r1, ty, q1⟩ => ?_)
  obtain ⟨a, xs, ea, oo, hd, hH⟩ := ty
  subst ea
  cases r1
  obtain ⟨g1, g2⟩ := I1.hok _ _ hH
  obtain ⟨_, its, rv, o', g3, g4, _⟩ := g2
  have h1 : s1.TypeIs (.ref a) "tuple" := ⟨o', g3, g4⟩
  have h2 : ∀ b, Value.ref a = .ref b → ∃ ob, s1.heap.get? b = some ob ∧ ob.dict = none := fun b eb => by
    cases eb
    exact ⟨oo, g1, hd⟩
  refine ⟨"tuple", id, PySem.F.plainAttrs_tuple, slot, hty, h1, h2, ?_⟩
  have hA := ha.run cpos pins s1 σ H1 _ I1 q1
  rw [hs] at hA ⊢
  refine Calls.callWith_builtin (by show (false || (backTo cpos (starEach es X.env)).any (·.1)) = false; rw [hplain] <;> rfl) (Calls.evalArgs_plain ?_)
  exact thn hA fun us s2 ⟨vs, H2, I2, r2, q2⟩ => hm pins s2 σ H2 (.ref a) vs (.ref a) us Q I2 rfl r2 q2
/-- a list of texts != [] -/
def rNeNil : R2 := fun x y H Q => ∃ (a b : Addr) (ys : List Str), x = .ref a ∧ y = .ref b ∧ H a = some (.lst (ys.map V.str)) ∧ H b = some (.lst []) ∧ Goods ys ∧ Q (.bl (!decide (ys = []))) H
theorem op_neNil (hu : X.A.units + 64 < cLine) : OpR X (compareOp .NotEq) rNeNil := by
  intro pins s σ H x y v u Q I rx ry h
  obtain ⟨a, b, ys, rfl, rfl, ha, hb, hg, q⟩ := h
  refine op_neD hu pins s σ H _ _ v u Q I rx ry ⟨_, _, dp_list ha, dp_list (xs := []) hb, sh_list hg, sh_list (xs := []) (fun _ h => nomatch h), ?_⟩
  have e : PyData.eqv (.list (ys.map .str)) (.list (([] : List Str).map .str)) = decide (ys = []) := by
    rw [PyData.eqv, eqv_strs]
  rw [e]
  exact q
/-- two tuples of texts -/
def rEqT : R2 := fun x y H Q => ∃ (a b : Addr) (xs ys : List Str), x = .ref a ∧ y = .ref b ∧ TupAt H a (xs.map V.str) ∧ TupAt H b (ys.map V.str) ∧ Goods xs ∧ Goods ys ∧ Q (.bl (decide (xs = ys))) H
theorem op_eqT (hu : X.A.units + 64 < cLine) : OpR X (compareOp .Eq) rEqT := by
  intro pins s σ H x y v u Q I rx ry h
  obtain ⟨a, b, xs, ys, rfl, rfl, ha, hb, g1, g2, q⟩ := h
  refine op_eqD hu pins s σ H _ _ v u Q I rx ry ⟨_, _, .tup ha.sq (dp_strs xs), .tup hb.sq (dp_strs ys), sh_tuple g1, sh_tuple g2, ?_⟩
  have e : PyData.eqv (.tuple (xs.map .str)) (.tuple (ys.map .str)) = decide (xs = ys) := by
    rw [PyData.eqv, eqv_strs]
  rw [e]
  exact q
end

/-! ### a row: a tuple or a list of names -/
def RowAt (H : Hp) (a : Addr) (row : List Str) : Prop := TupAt H a (row.map V.str) ∨ H a = some (.lst (row.map V.str))
theorem RowAt.same {H H' : Hp} {a : Addr} {row : List Str} (s : Same H H') (h : RowAt H a row) : RowAt H' a row := h.elim (fun e => .inl (e.same s)) (fun e => .inr (s _ _ e))

/-! ### where one comes to -/
def lastP {α : Type} (p : α → Bool) : List α → Option Nat
  | [] => none
  | x :: r => match lastP p r with
    | some k => some (k + 1)
    | none => if p x then some 0 else none
theorem lastP_app {α : Type} (p : α → Bool) (x : α) : ∀ l : List α, lastP p (l ++ [x]) = if p x then some l.length else lastP p l
  | [] => by simp [lastP]
  | y :: l => by
    show (match lastP p (l ++ [x]) with | some k => some (k + 1) | none => if p y then some 0 else none) = _
    rw [lastP_app p x l]
    by_cases h : p x = true
    · rw [if_pos h, if_pos h]
      rfl
    · rw [if_neg h, if_neg h]
      rfl
theorem lastP_take {α : Type} (p : α → Bool) {xs : List α} {i : Nat} {x : α} (h : xs[i]? = some x) : lastP p (xs.take (i + 1)) = if p x then some i else lastP p (xs.take i) := by
  have hi : i < xs.length := (List.getElem?_eq_some_iff.mp h).1
  rw [List.take_add_one, h]
  show lastP p (xs.take i ++ [x]) = _
  rw [lastP_app, List.length_take, Nat.min_eq_left (Nat.le_of_lt hi)]
theorem lastP_some {α : Type} {p : α → Bool} : ∀ {l : List α} {k : Nat}, lastP p l = some k → ∃ x, l[k]? = some x ∧ p x = true ∧ ∀ j y, k < j → l[j]? = some y → p y = false
  | [], k, h => by cases h
  | x :: r, k, h => by
    unfold lastP at h
    cases e : lastP p r with
    | some j =>
      rw [e] at h
      have hk : j + 1 = k := Option.some.inj h
      subst hk
      obtain ⟨y, h1, h2, h3⟩ := lastP_some e
      refine ⟨y, h1, h2, fun j' z hj hz => ?_⟩
      match j', hj, hz with
      | j' + 1, hj, hz => exact h3 j' z (by omega) hz
    | none =>
      rw [e] at h
      by_cases hx : p x = true
      · simp only [hx, if_true] at h
        have hk : 0 = k := Option.some.inj h
        subst hk
        refine ⟨x, rfl, hx, fun j' z hj hz => ?_⟩
        match j', hj, hz with
        | j' + 1, hj, hz => exact lastP_none e j' z hz
      · simp only [hx] at h
        cases h
where lastP_none {α : Type} {p : α → Bool} : ∀ {l : List α}, lastP p l = none → ∀ (j : Nat) (y : α), l[j]? = some y → p y = false
  | [], _, j, y, h => by simp at h
  | x :: r, e, j, y, h => by
    unfold lastP at e
    cases e2 : lastP p r with
    | some k => rw [e2] at e; cases e
    | none =>
      rw [e2] at e
      by_cases hx : p x = true
      · simp only [hx, if_true] at e
        cases e
      · match j, h with
        | 0, h =>
          have : x = y := Option.some.inj h
          subst this
          exact Bool.eq_false_iff.mpr hx
        | j + 1, h => exact lastP_none e2 j y h
theorem lastP_nil {α : Type} {p : α → Bool} : ∀ {l : List α}, lastP p l = none ↔ l.filter p = []
  | [] => by simp [lastP]
  | x :: r => by
    have ih := lastP_nil (p := p) (l := r)
    unfold lastP
    cases e : lastP p r with
    | some k =>
      have : ¬ r.filter p = [] := fun z => by rw [ih.mpr z] at e; cases e
      rw [List.filter_cons]
      by_cases hx : p x = true
      · simp [hx]
      · simp [hx, this]
    | none =>
      have z := ih.mp e
      rw [List.filter_cons, z]
      by_cases hx : p x = true
      · simp [hx]
      · simp [hx]
theorem Goods.at_ {xs : List Str} {i : Nat} {x : Str} (h : Goods xs) (e : xs[i]? = some x) : Good x := h x (List.mem_of_getElem? e)
theorem Goods.filter {xs : List Str} {p : Str → Bool} (h : Goods xs) : Goods (xs.filter p) := fun x hx => h x (List.mem_filter.mp hx).1
def spotOf (ps : List (Str × Str)) (stand : List Str) (x : Str) : Nat := match lastP (frd ps x) stand with
  | some k => k + 1
  | none => stand.length
def comeTo (ps : List (Str × Str)) (stand : List Str) (x : Str) : List Str := stand.take (spotOf ps stand x) ++ [x] ++ stand.drop (spotOf ps stand x)
def standOf (ps : List (Str × Str)) (order : List Str) : List Str := order.foldl (comeTo ps) []
theorem come_perm (ps : List (Str × Str)) (stand : List Str) (x : Str) : (comeTo ps stand x).Perm (x :: stand) := ins_perm _ _ _
theorem come_len (ps : List (Str × Str)) (stand : List Str) (x : Str) : (comeTo ps stand x).length = stand.length + 1 := (come_perm ps stand x).length_eq
theorem standOf_app (ps : List (Str × Str)) (o : List Str) (x : Str) : standOf ps (o ++ [x]) = comeTo ps (standOf ps o) x := by
  unfold standOf
  rw [List.foldl_append]
  rfl
theorem stand_perm_from (ps : List (Str × Str)) : ∀ (o stand : List Str), (o.foldl (comeTo ps) stand).Perm (o ++ stand)
  | [], stand => List.Perm.refl _
  | x :: o, stand => by
    show (o.foldl (comeTo ps) (comeTo ps stand x)).Perm _
    refine (stand_perm_from ps o _).trans ?_
    refine ((come_perm ps stand x).append_left o).trans ?_
    exact List.perm_middle
theorem stand_perm (ps : List (Str × Str)) (o : List Str) : (standOf ps o).Perm o := by
  have h := stand_perm_from ps o []
  rw [List.append_nil] at h
  exact h

/-! ### promises -/
def spAre : Sp := fun vs H Q _ => ∃ (a : Addr) (ps : List (Str × Str)) (x y : Str), vs = [.ref a, .str x, .str y] ∧ PalsAt H a ps ∧ PalsOk ps ∧ Good x ∧ Good y ∧ ∀ H', Same H H' → Q (.bl (frd ps x y)) H'
def spCome : Sp := fun vs H Q _ => ∃ (a t : Addr) (ps : List (Str × Str)) (stand : List Str) (x : Str), vs = [.ref a, .ref t, .str x] ∧ PalsAt H a ps ∧ PalsOk ps ∧ TupAt H t (stand.map V.str) ∧ Goods stand ∧ Good x ∧ stand.length ≤ 100 ∧
  ∀ t' H', Same H H' → TupAt H' t' ((comeTo ps stand x).map V.str) → Q (.ref t') H'
def spStrewn : Sp := fun vs H Q _ => ∃ (b l : Addr) (pool : List Str), vs = [.ref b, .ref l] ∧ IsBox H b ∧ RowAt H l pool ∧ pool.length ≤ 100 ∧
  ∀ (p : Addr) (order : List Str) (H' : Hp), Oth b H H' → IsBox H' b → H p = none → H' p = some (.lst (order.map V.str)) → order.Perm pool → Q (.ref p) H'
end Lk
set_option maxRecDepth 100000
set_option maxHeartbeats 4000000
namespace Lk
open PySem PySem.Spec PyProof.Rows L2
/-- a tuple that is tracked, either way -/
def TupX (H : Hp) (a : Addr) (xs : List V) : Prop := H a = some (.tup xs) ∨ TupAt H a xs
theorem TupX.same {H H' : Hp} {a : Addr} {xs : List V} (s : Same H H') (h : TupX H a xs) : TupX H' a xs := h.elim (fun e => .inl (s _ _ e)) (fun e => .inr (e.same s))
theorem TupX.sq {K : PySem.W.Frag} {H : Hp} {a : Addr} {xs : List V} (h : TupX H a xs) : SqT K H a xs := h.elim (fun e => .inl (.inl e)) (fun e => e.sq)
theorem TupX.ty {K : PySem.W.Frag} {H : Hp} {a : Addr} {xs : List V} (h : TupX H a xs) : TyX K H (.ref a) (.type "tuple") := h.elim (fun e => .base (.tup e)) (fun ⟨_, _, e⟩ => .fTuple e)
/-- two values that _law_same tells to be the same: scalars, lists, tuples, at most n deep -/
def Alk (H : Hp) : Nat → V → V → Prop
  | 0, _, _ => False
  | n + 1, x, y => ((x = .non ∨ (∃ b, x = .bl b) ∨ (∃ i, x = .int i) ∨ ∃ z, x = .str z) ∧ y = x) ∨
    (∃ a b xs ys, x = .ref a ∧ y = .ref b ∧ H a = some (.lst xs) ∧ H b = some (.lst ys) ∧ xs.length = ys.length ∧ xs.length ≤ 1000 ∧ ∀ (i : Nat) (u v : V), xs[i]? = some u → ys[i]? = some v → Alk H n u v) ∨
    (∃ a b xs ys, x = .ref a ∧ y = .ref b ∧ TupX H a xs ∧ TupX H b ys ∧ xs.length = ys.length ∧ xs.length ≤ 1000 ∧ ∀ (i : Nat) (u v : V), xs[i]? = some u → ys[i]? = some v → Alk H n u v)
theorem Alk.same {H H' : Hp} (s : Same H H') : ∀ {n : Nat} {x y : V}, Alk H n x y → Alk H' n x y
  | 0, _, _, h => h.elim
  | n + 1, x, y, h => by
    rcases h with h | ⟨a, b, xs, ys, e1, e2, h1, h2, hl, hz, h⟩ | ⟨a, b, xs, ys, e1, e2, h1, h2, hl, hz, h⟩
    · exact .inl h
    · exact .inr (.inl ⟨a, b, xs, ys, e1, e2, s _ _ h1, s _ _ h2, hl, hz, fun i u v hu hv => Alk.same s (h i u v hu hv)⟩)
    · exact .inr (.inr ⟨a, b, xs, ys, e1, e2, h1.same s, h2.same s, hl, hz, fun i u v hu hv => Alk.same s (h i u v hu hv)⟩)
theorem alk_bl {H : Hp} {n : Nat} (b : Bool) : Alk H (n + 1) (.bl b) (.bl b) := .inl ⟨.inr (.inl ⟨b, rfl⟩), rfl⟩
def spSame (n : Nat) : Sp := fun vs H Q _ => ∃ x y, vs = [x, y] ∧ Alk H n x y ∧ ∀ H', Same H H' → Q (.bl true) H'
theorem walk_zipT {K : PySem.W.Frag} {a b : Addr} {xs ys : List V} {n : Nat} (hn : n = min xs.length ys.length) : Walk (RZ.ItzT K a b) n (fun H => SqT K H a xs ∧ SqT K H b ys) (YPair (fun i => xs[i]?) (fun i => ys[i]?)) := by
  subst hn
  refine ⟨fun i _ hi q => ?_, fun _ q => ⟨xs, ys, q.1, q.2, by omega⟩, fun i H v H' _ q y => ?_⟩
  · have h1 : i < xs.length := by omega
    have h2 : i < ys.length := by omega
    exact ⟨xs, ys, xs[i], ys[i], q.1, q.2, by simp [h1], by simp [h2]⟩
  · obtain ⟨T, x, z, h1, h2, h3, h4, h5⟩ := y
    exact ⟨T, x, z, h1, h2, h3, h4 xs q.1, h5 ys q.2⟩
end Lk
set_option maxRecDepth 100000
set_option maxHeartbeats 4000000
namespace Lk
open PySem PySem.Spec PyProof.Rows L2

/-! ### the dict of friends, either way about -/
def k2 (a b : Str) : List Key := [Sum.inr a, Sum.inr b]
theorem k2_inj {a b c d : Str} : k2 a b = k2 c d ↔ a = c ∧ b = d := by
  unfold k2
  simp
def KnAt (H : Hp) (d : Addr) (ps : List (Str × Str)) : Prop := ∃ kvs, H d = some (.dT kvs) ∧ ∀ a b, (valV kvs (k2 a b)).isSome = frd ps a b
theorem KnAt.same {H H' : Hp} {d : Addr} {ps : List (Str × Str)} (s : Same H H') (h : KnAt H d ps) : KnAt H' d ps := by
  obtain ⟨kvs, h1, h2⟩ := h
  exact ⟨kvs, s _ _ h1, h2⟩
theorem putK_len {kvs : List (List Key × V)} {k : List Key} {v : V} : (putK kvs k v).length ≤ kvs.length + 1 := by
  unfold putK
  split
  · rw [List.length_map]
    omega
  · rw [List.length_append]
    exact Nat.le_refl _
theorem frd_app (ps : List (Str × Str)) (p : Str × Str) (a b : Str) : frd (ps ++ [p]) a b = (frd ps a b || decide ((a, b) = p) || decide ((b, a) = p)) := by
  unfold frd
  by_cases h1 : (a, b) ∈ ps <;> by_cases h2 : (b, a) ∈ ps <;> by_cases h3 : (a, b) = p <;> by_cases h4 : (b, a) = p <;> simp [h1, h2, h3, h4]
theorem both_put {kvs : List (List Key × V)} {ps : List (Str × Str)} (h : ∀ a b, (valV kvs (k2 a b)).isSome = frd ps a b) (x y : Str) (u v : V) (a b : Str) :
    (valV (putK (putK kvs (k2 x y) u) (k2 y x) v) (k2 a b)).isSome = frd (ps ++ [(x, y)]) a b := by
  rw [valV_put, valV_put, frd_app, ← h a b]
  by_cases h1 : k2 a b = k2 y x
  · rw [if_pos h1]
    obtain ⟨e1, e2⟩ := k2_inj.mp h1
    subst e1 e2
    simp
  · rw [if_neg h1]
    have n1 : ¬ (b, a) = (x, y) := fun z => h1 (k2_inj.mpr ⟨(Prod.mk.inj z).2, (Prod.mk.inj z).1⟩)
    by_cases h2 : k2 a b = k2 x y
    · rw [if_pos h2]
      obtain ⟨e1, e2⟩ := k2_inj.mp h2
      subst e1 e2
      simp
    · rw [if_neg h2]
      have n2 : ¬ (a, b) = (x, y) := fun z => h2 (k2_inj.mpr ⟨(Prod.mk.inj z).1, (Prod.mk.inj z).2⟩)
      simp [n1, n2]

/-! ### places, words -/
def optW (c : Bool) (w : Str) : List Str := if c = true then [w] else []
def lfpV : Option Nat → V
  | none => .non
  | some k => .int k
theorem inV_strs (x : Str) (xs : List Str) : inV (.str x) (xs.map V.str) = decide (x ∈ xs) := by
  unfold inV
  rw [List.any_map]
  induction xs with
  | nil => rfl
  | cons y r ih =>
    rw [List.any_cons, ih]
    show ((y == x) || _) = _
    by_cases h : y = x
    · subst h
      simp
    · have h' : ¬ x = y := fun z => h z.symm
      simp [h, h']
theorem lastP_lt {α : Type} {p : α → Bool} {l : List α} {k : Nat} (h : lastP p l = some k) : k < l.length := by
  obtain ⟨x, hx, _⟩ := lastP_some h
  exact (List.getElem?_eq_some_iff.mp hx).1
def btw (i j : Nat) : Option Nat → Bool
  | none => false
  | some k => decide (k < j) && decide (j < i)
/-- the words by which one, at place i, bars other, at place j -/
def wordsOf (ps : List (Str × Str)) (row : List Str) (one other : Str) (i j : Nat) : List Str :=
  optW (decide (lastP (frd ps one) (row.take i) = none) && decide (i < j)) "behind" ++
  optW (btw i j (lastP (frd ps one) (row.take i))) "between" ++
  optW (decide (i < j) && frd ps one other) "friend"
/-! ### index -/
section
variable {X : Cx}
end
theorem nd_first {row : List Str} {i : Nat} {x : Str} (hd : row.Nodup) (h : row[i]? = some x) : ∀ m, m < i → row[m]? ≠ some x := fun m hm e => by
  have := nd_ix hd h e
  omega

/-! ### promises of the program -/
def spBoth : Sp := fun vs H Q _ => ∃ (a : Addr) (ps : List (Str × Str)), vs = [.ref a] ∧ FrAt H a ps ∧ ps.length ≤ 1000 ∧ ∀ d H', Same H H' → H d = none → KnAt H' d ps → Q (.ref d) H'
def spLfp : Sp := fun vs H Q _ => ∃ (d r : Addr) (ps : List (Str × Str)) (row : List Str) (who : Str), vs = [.ref d, .ref r, .str who] ∧ KnAt H d ps ∧ RowAt H r row ∧ row.length ≤ 100 ∧
  ∀ H', Same H H' → Q (lfpV (lastP (frd ps who) row)) H'
/-! ### .. and of the law's own words -/
def spRight : Sp := fun vs H Q _ => ∃ b : Addr, vs = [.ref b] ∧ IsBox H b ∧ ∀ H', Oth b H H' → Q (.bl true) H'
def spLaw (K : PySem.W.Frag) : Sp := fun vs H Q _ => ∃ (a : Addr) (ns : List Int), vs = [.ref a] ∧ SqL K H a (ns.map V.int) ∧ ns.length ≤ 63 ∧ ∀ H', Q (.bl true) H'
/-! ### calls by keywords that stand in the parameters' order turned about -/
/-- no positional ones, the keywords turned about -/
def gRev {α : Type} : List α → List α → List α
  | [], ws => ws.reverse
  | _ :: _, _ => []
end Lk
set_option maxRecDepth 100000
set_option maxHeartbeats 4000000
namespace Lk
open PySem PySem.Spec PyProof.Rows L2

/-! ### who can have come last -/
theorem lastP_append {α : Type} (p : α → Bool) (b : List α) : ∀ a : List α, lastP p (a ++ b) = match lastP p b with | some k => some (a.length + k) | none => lastP p a
  | [] => by
    show lastP p b = _
    cases lastP p b with
    | none => rfl
    | some k => simp
  | x :: a => by
    have ih := lastP_append p b a
    show (match lastP p (a ++ b) with | some k => some (k + 1) | none => if p x then some 0 else none) = _
    rw [ih]
    cases lastP p b with
    | none => rfl
    | some k =>
      show some (a.length + k + 1) = some ((x :: a).length + k)
      rw [List.length_cons]
      congr 1
      omega
/-- the one at place i is loose -/
def looseB (ps : List (Str × Str)) (row : List Str) (i : Nat) (x : Str) : Bool := match lastP (frd ps x) row with
  | none => decide (i + 1 = row.length)
  | some k => decide (k + 1 = i)
theorem split_at {α : Type} {row : List α} {i : Nat} {x : α} (h : row[i]? = some x) : row = row.take i ++ x :: row.drop (i + 1) := by
  have hi : i < row.length := (List.getElem?_eq_some_iff.mp h).1
  have e := List.getElem?_eq_getElem hi
  rw [h] at e
  have e2 : x = row[i] := Option.some.inj e
  rw [e2, ← List.drop_eq_getElem_cons hi, List.take_append_drop]
theorem ins_eq {α : Type} {a b : List α} {x : α} {s : Nat} (hx : x ∉ a ++ b) (hs : s ≤ (a ++ b).length) (h : (a ++ b).take s ++ [x] ++ (a ++ b).drop s = a ++ x :: b) : s = a.length := by
  have e1 : ((a ++ b).take s ++ [x] ++ (a ++ b).drop s)[s]? = some x := by
    rw [List.append_assoc, List.getElem?_append_right (by rw [List.length_take]; omega), List.length_take, Nat.min_eq_left hs, Nat.sub_self]
    rfl
  rw [h] at e1
  by_cases h1 : s < a.length
  · rw [List.getElem?_append_left h1] at e1
    exact absurd (List.mem_append_left b (List.mem_of_getElem? e1)) hx
  · rw [List.getElem?_append_right (by omega)] at e1
    cases h2 : s - a.length with
    | zero => omega
    | succ m =>
      rw [h2, List.getElem?_cons_succ] at e1
      exact absurd (List.mem_append_right a (List.mem_of_getElem? e1)) hx
theorem loose_iff {ps : List (Str × Str)} {row : List Str} {i : Nat} {x : Str} (hd : row.Nodup) (h : row[i]? = some x) (irr : frd ps x x = false) :
    decide (comeTo ps (row.take i ++ row.drop (i + 1)) x = row) = looseB ps row i x := by
  have hi : i < row.length := (List.getElem?_eq_some_iff.mp h).1
  have sp := split_at h
  generalize ha : row.take i = a at sp
  generalize hb : row.drop (i + 1) = b at sp
  have la : a.length = i := by
    rw [← ha, List.length_take]
    omega
  have nx : x ∉ a ++ b := by
    rw [sp] at hd
    have q : (x :: (a ++ b)).Nodup := (List.perm_middle.nodup_iff).mp hd
    exact (List.nodup_cons.mp q).1
  have lr : row.length = a.length + b.length + 1 := by
    rw [sp, List.length_append, List.length_cons]
    omega
  have key : comeTo ps (a ++ b) x = row ↔ spotOf ps (a ++ b) x = i := by
    constructor
    · intro e
      rw [← la]
      refine ins_eq (s := spotOf ps (a ++ b) x) nx ?_ (e.trans sp)
      unfold spotOf
      split
      · rename_i k ek
        have := lastP_lt ek
        omega
      · exact Nat.le_refl _
    · intro e
      unfold comeTo
      rw [e, ← la, List.take_left' rfl, List.drop_left' rfl, List.append_assoc]
      exact sp.symm
  have e1 : lastP (frd ps x) (x :: b) = (lastP (frd ps x) b).map (· + 1) := by
    show (match lastP (frd ps x) b with | some k => some (k + 1) | none => if frd ps x x then some 0 else none) = _
    rw [irr]
    cases lastP (frd ps x) b <;> rfl
  have e2 : lastP (frd ps x) row = match lastP (frd ps x) (x :: b) with | some k => some (a.length + k) | none => lastP (frd ps x) a := by
    rw [← lastP_append, ← sp]
  have e3 := lastP_append (frd ps x) b a
  rw [e1] at e2
  have fin : (spotOf ps (a ++ b) x = i) ↔ looseB ps row i x = true := by
    unfold looseB spotOf
    rw [e2, e3]
    cases lastP (frd ps x) b with
    | some k =>
      show (a.length + k + 1 = i) ↔ decide (a.length + (k + 1) + 1 = i) = true
      rw [decide_eq_true_eq]
      omega
    | none =>
      cases lastP (frd ps x) a with
      | some k =>
        show (k + 1 = i) ↔ decide (k + 1 = i) = true
        rw [decide_eq_true_eq]
      | none =>
        show ((a ++ b).length = i) ↔ decide (i + 1 = row.length) = true
        rw [decide_eq_true_eq, List.length_append]
        omega
  cases c : looseB ps row i x with
  | true => exact decide_eq_true (key.mpr (fin.mpr c))
  | false => exact decide_eq_false (fun z => by rw [fin.mp (key.mp z)] at c; cases c)
/-- all that are loose, in the row's order -/
def looseL (ps : List (Str × Str)) (row : List Str) : List Str := (row.zipIdx.filter fun p => looseB ps row p.2 p.1).map (·.1)
def looseTo (ps : List (Str × Str)) (row : List Str) (n : Nat) : List Str := ((row.zipIdx.take n).filter fun p => looseB ps row p.2 p.1).map (·.1)
theorem looseTo_step {ps : List (Str × Str)} {row : List Str} {i : Nat} {x : Str} (h : row[i]? = some x) : looseTo ps row (i + 1) = looseTo ps row i ++ if looseB ps row i x = true then [x] else [] := by
  have e : row.zipIdx[i]? = some (x, i) := by
    rw [List.getElem?_zipIdx, h]
    simp
  unfold looseTo
  rw [List.take_add_one, e, List.filter_append, List.map_append]
  show _ ++ List.map (·.1) (List.filter _ [(x, i)]) = _
  rw [List.filter_cons, List.filter_nil]
  show _ ++ List.map (·.1) (if looseB ps row i x = true then [(x, i)] else []) = _
  by_cases c : looseB ps row i x = true
  · rw [if_pos c, if_pos c]
    rfl
  · rw [if_neg c, if_neg c]
    rfl
theorem looseTo_all (ps : List (Str × Str)) (row : List Str) : looseTo ps row row.length = looseL ps row := by
  unfold looseTo looseL
  rw [List.take_of_length_le (by rw [List.length_zipIdx]; exact Nat.le_refl _)]
theorem looseL_mem {ps : List (Str × Str)} {row : List Str} {i : Nat} {x : Str} (hd : row.Nodup) (h : row[i]? = some x) : decide (x ∈ looseL ps row) = looseB ps row i x := by
  unfold looseL
  have e : (x ∈ (row.zipIdx.filter fun p => looseB ps row p.2 p.1).map (·.1)) ↔ looseB ps row i x = true := by
    constructor
    · intro m
      obtain ⟨⟨y, j⟩, hp, rfl⟩ := List.mem_map.mp m
      obtain ⟨h1, h2⟩ := List.mem_filter.mp hp
      have h3 : row[j]? = some y := by
        have q := List.mem_zipIdx_iff_getElem?.mp h1
        exact q
      have ej := nd_ix hd h3 h
      rw [← ej]
      exact h2
    · intro c
      refine List.mem_map.mpr ⟨(x, i), List.mem_filter.mpr ⟨?_, c⟩, rfl⟩
      exact List.mem_zipIdx_iff_getElem?.mpr h
  cases c : looseB ps row i x with
  | true => exact decide_eq_true (e.mpr c)
  | false => exact decide_eq_false (fun z => by rw [e.mp z] at c; cases c)

/-! ### promises -/
def spLooseAt : Sp := fun vs H Q _ => ∃ (d r : Addr) (ps : List (Str × Str)) (row : List Str) (x : Str) (i : Nat), vs = [.ref d, .ref r, .int i] ∧ KnAt H d ps ∧ RowAt H r row ∧ row.length ≤ 100 ∧ row[i]? = some x ∧
  ∀ H', Same H H' → Q (.bl (looseB ps row i x)) H'
end Lk
set_option maxRecDepth 100000
set_option maxHeartbeats 4000000
namespace Lk
open PySem PySem.Spec PyProof.Rows L2

/-! ### whichever go, the same are left -/
def LooseP (ps : List (Str × Str)) (a b : List Str) (x : Str) : Prop :=
  (∀ y ∈ b, frd ps x y = false) ∧ ((∃ a' f, a = a' ++ [f] ∧ frd ps x f = true) ∨ ((∀ y ∈ a, frd ps x y = false) ∧ b = []))
theorem lastP_no {α : Type} {p : α → Bool} {l : List α} : lastP p l = none ↔ ∀ y ∈ l, p y = false := by
  rw [lastP_nil]
  constructor
  · intro h y hy
    cases c : p y with
    | false => rfl
    | true =>
      have m : y ∈ l.filter p := List.mem_filter.mpr ⟨hy, c⟩
      rw [h] at m
      cases m
  · intro h
    refine List.filter_eq_nil_iff.mpr fun y hy => ?_
    rw [h y hy]
    exact Bool.false_ne_true
theorem lastP_end {α : Type} {p : α → Bool} {l : List α} {k : Nat} (h : lastP p l = some k) (e : k + 1 = l.length) : ∃ l' f, l = l' ++ [f] ∧ p f = true := by
  obtain ⟨f, h1, h2, _⟩ := lastP_some h
  refine ⟨l.take k, f, ?_, h2⟩
  have q := split_at h1
  rw [List.drop_eq_nil_of_le (by omega)] at q
  exact q
theorem looseB_iff {ps : List (Str × Str)} {row a b : List Str} {x : Str} (h : row = a ++ x :: b) (irr : frd ps x x = false) : looseB ps row a.length x = true ↔ LooseP ps a b x := by
  have e1 : lastP (frd ps x) (x :: b) = (lastP (frd ps x) b).map (· + 1) := by
    show (match lastP (frd ps x) b with | some k => some (k + 1) | none => if frd ps x x then some 0 else none) = _
    rw [irr]
    cases lastP (frd ps x) b <;> rfl
  have e2 : lastP (frd ps x) row = match lastP (frd ps x) (x :: b) with | some k => some (a.length + k) | none => lastP (frd ps x) a := by
    rw [h]
    exact lastP_append (frd ps x) (x :: b) a
  rw [e1] at e2
  have lr : row.length = a.length + b.length + 1 := by
    rw [h, List.length_append, List.length_cons]
    omega
  unfold looseB LooseP
  rw [e2]
  cases eb : lastP (frd ps x) b with
  | some k =>
    obtain ⟨f, h1, h2, _⟩ := lastP_some eb
    show decide (a.length + (k + 1) + 1 = a.length) = true ↔ _
    rw [decide_eq_true_eq]
    constructor
    · intro z
      omega
    · rintro ⟨z, _⟩
      rw [z f (List.mem_of_getElem? h1)] at h2
      cases h2
  | none =>
    have nb := lastP_no.mp eb
    cases ea : lastP (frd ps x) a with
    | some k =>
      show decide (k + 1 = a.length) = true ↔ _
      rw [decide_eq_true_eq]
      obtain ⟨f, h1, h2, h3⟩ := lastP_some ea
      constructor
      · intro z
        exact ⟨nb, .inl (lastP_end ea z)⟩
      · rintro ⟨_, ⟨a', f', rfl, z⟩ | ⟨z, _⟩⟩
        · rw [List.length_append]
          show k + 1 = a'.length + 1
          have hk := (List.getElem?_eq_some_iff.mp h1).1
          rw [List.length_append] at hk
          have hk' : k < a'.length + 1 := hk
          by_cases c : k < a'.length
          · have q := h3 a'.length f' c (by simp)
            rw [q] at z
            cases z
          · omega
        · rw [z f (List.mem_of_getElem? h1)] at h2
          cases h2
    | none =>
      have na := lastP_no.mp ea
      show decide (a.length + 1 = row.length) = true ↔ _
      rw [decide_eq_true_eq]
      constructor
      · intro z
        exact ⟨nb, .inr ⟨na, List.length_eq_zero_iff.mp (by omega)⟩⟩
      · rintro ⟨_, ⟨a', f', rfl, z⟩ | ⟨_, z⟩⟩
        · rw [na f' (by simp)] at z
          cases z
        · rw [z] at lr
          simpa using lr.symm
def LooseIn (ps : List (Str × Str)) (row : List Str) (x : Str) : Prop := ∃ a b, row = a ++ x :: b ∧ LooseP ps a b x
def Irr (ps : List (Str × Str)) : Prop := ∀ x, frd ps x x = false
def rem (row : List Str) (x : Str) : List Str := row.filter fun y => !decide (y = x)
theorem rem_split {a b : List Str} {x : Str} (hd : (a ++ x :: b).Nodup) : rem (a ++ x :: b) x = a ++ b := by
  have q : (x :: (a ++ b)).Nodup := (List.perm_middle.nodup_iff).mp hd
  have nx := (List.nodup_cons.mp q).1
  unfold rem
  rw [List.filter_append, List.filter_cons]
  have e1 : a.filter (fun y => !decide (y = x)) = a := List.filter_eq_self.mpr fun y hy => by
    have : ¬ y = x := fun z => nx (List.mem_append_left b (z ▸ hy))
    simp [this]
  have e2 : b.filter (fun y => !decide (y = x)) = b := List.filter_eq_self.mpr fun y hy => by
    have : ¬ y = x := fun z => nx (List.mem_append_right a (z ▸ hy))
    simp [this]
  rw [e1, e2]
  simp
theorem rem_nodup {row : List Str} {x : Str} (hd : row.Nodup) : (rem row x).Nodup := hd.filter _
theorem rem_comm (row : List Str) (x y : Str) : rem (rem row x) y = rem (rem row y) x := by
  unfold rem
  rw [List.filter_filter, List.filter_filter]
  refine List.filter_congr fun z _ => ?_
  exact Bool.and_comm _ _
theorem rem_len {row : List Str} {x : Str} (hd : row.Nodup) (hx : x ∈ row) : (rem row x).length + 1 = row.length := by
  obtain ⟨a, b, rfl⟩ := List.append_of_mem hx
  rw [rem_split hd, List.length_append, List.length_append, List.length_cons]
  omega
theorem LooseIn.mem {ps : List (Str × Str)} {row : List Str} {x : Str} (h : LooseIn ps row x) : x ∈ row := by
  obtain ⟨a, b, rfl, _⟩ := h
  simp
theorem split_uniq {row a b c d : List Str} {x : Str} (hd : row.Nodup) (h1 : row = a ++ x :: b) (h2 : row = c ++ x :: d) : a = c ∧ b = d := by
  have e1 : row[a.length]? = some x := by rw [h1]; simp
  have e2 : row[c.length]? = some x := by rw [h2]; simp
  have l := nd_ix hd e1 e2
  have e := h1.symm.trans h2
  have q := List.append_inj e l
  exact ⟨q.1, (List.cons.inj q.2).2⟩
theorem looseL_iff {ps : List (Str × Str)} {row : List Str} {x : Str} (irr : Irr ps) (hd : row.Nodup) : x ∈ looseL ps row ↔ LooseIn ps row x := by
  constructor
  · intro h
    have hx : x ∈ row := by
      unfold looseL at h
      obtain ⟨⟨y, j⟩, hp, rfl⟩ := List.mem_map.mp h
      exact List.mem_of_getElem? (List.mem_zipIdx_iff_getElem?.mp (List.mem_filter.mp hp).1)
    obtain ⟨a, b, e⟩ := List.append_of_mem hx
    have ei : row[a.length]? = some x := by rw [e]; simp
    have q := looseL_mem (ps := ps) hd ei
    rw [decide_eq_true h] at q
    exact ⟨a, b, e, (looseB_iff e (irr x)).mp q.symm⟩
  · rintro ⟨a, b, e, h⟩
    have ei : row[a.length]? = some x := by rw [e]; simp
    have q := looseL_mem (ps := ps) hd ei
    rw [(looseB_iff e (irr x)).mpr h] at q
    exact of_decide_eq_true q
/-- the lemma: of two that are loose each is so without the other -/
theorem diamond {ps : List (Str × Str)} {row : List Str} {x y : Str} (hd : row.Nodup) (hx : LooseIn ps row x) (hy : LooseIn ps row y) (ne : x ≠ y) : LooseIn ps (rem row y) x := by
  obtain ⟨a, b, e, h1, h2⟩ := hx
  have my : y ∈ row := hy.mem
  obtain ⟨c, d, e', g1, g2⟩ := hy
  have my' : y ∈ a ∨ y ∈ b := by
    rw [e] at my
    rcases List.mem_append.mp my with z | z
    · exact .inl z
    · rcases List.mem_cons.mp z with z | z
      · exact absurd z.symm ne
      · exact .inr z
  rcases my' with m | m
  · obtain ⟨a1, a2, rfl⟩ := List.append_of_mem m
    have e2 : row = a1 ++ y :: (a2 ++ x :: b) := by rw [e]; simp
    have er : rem row y = (a1 ++ a2) ++ x :: b := by
      rw [e2, rem_split (by rw [← e2]; exact hd)]
      simp
    refine ⟨a1 ++ a2, b, er, h1, ?_⟩
    obtain ⟨_, u2⟩ := split_uniq hd e2 e'
    rcases h2 with ⟨a', f, ea, hf⟩ | ⟨na, nb⟩
    · rcases List.eq_nil_or_concat a2 with z | ⟨l, g, z⟩
      · subst z
        have q := List.append_inj' ea (by rfl)
        have ey : y = f := (List.cons.inj q.2).1
        have bad := g1 x (by rw [← u2]; simp)
        rw [frd_comm, ey, hf] at bad
        cases bad
      · rw [List.concat_eq_append] at z
        subst z
        have ea' : (a1 ++ y :: l) ++ [g] = a' ++ [f] := by rw [← ea]; simp
        have q := List.append_inj' ea' rfl
        have eg : g = f := (List.cons.inj q.2).1
        exact .inl ⟨a1 ++ l, g, by simp, by rw [eg]; exact hf⟩
    · exact .inr ⟨fun z hz => na z (by
        rcases List.mem_append.mp hz with w | w
        · exact List.mem_append_left _ w
        · exact List.mem_append_right _ (List.mem_cons_of_mem _ w)), nb⟩
  · obtain ⟨b1, b2, rfl⟩ := List.append_of_mem m
    have e2 : row = (a ++ x :: b1) ++ y :: b2 := by rw [e]; simp
    have er : rem row y = a ++ x :: (b1 ++ b2) := by
      rw [e2, rem_split (by rw [← e2]; exact hd)]
      simp
    refine ⟨a, b1 ++ b2, er, fun z hz => h1 z (by
        rcases List.mem_append.mp hz with w | w
        · exact List.mem_append_left _ w
        · exact List.mem_append_right _ (List.mem_cons_of_mem _ w)), ?_⟩
    rcases h2 with h | ⟨_, z⟩
    · exact .inl h
    · exact absurd z (by simp)
/-- one behind the other, loose ones that needn't stay go -/
inductive Red (ps : List (Str × Str)) (stay : List Str) : List Str → List Str → Prop where
  | done (row : List Str) : Red ps stay row row
  | go {row n : List Str} (x : Str) (h : LooseIn ps row x) (hs : x ∉ stay) (t : Red ps stay (rem row x) n) : Red ps stay row n
def Nf (ps : List (Str × Str)) (stay row : List Str) : Prop := ∀ x, LooseIn ps row x → x ∈ stay
theorem Red.swap {ps : List (Str × Str)} {stay row n : List Str} (h : Red ps stay row n) : row.Nodup → Nf ps stay n → ∀ x, LooseIn ps row x → x ∉ stay → Red ps stay (rem row x) n := by
  induction h with
  | done row => intro _ hn x hx hs; exact absurd (hn x hx) hs
  | @go row n y hy ys t ih =>
    intro hd hn x hx hs
    by_cases e : x = y
    · subst e
      exact t
    · have h1 := diamond hd hx hy e
      have h2 := diamond hd hy hx (fun z => e z.symm)
      have q := ih (rem_nodup hd) hn x h1 hs
      rw [rem_comm] at q
      exact .go y h2 ys q
theorem Red.trans {ps : List (Str × Str)} {stay row n m : List Str} (h : Red ps stay row n) : Red ps stay n m → Red ps stay row m := by
  induction h with
  | done row => exact fun q => q
  | go x hx hs _ ih => exact fun q => .go x hx hs (ih q)
/-- who comes is loose -/
theorem come_loose (ps : List (Str × Str)) (stand : List Str) (x : Str) : LooseIn ps (comeTo ps stand x) x := by
  refine ⟨stand.take (spotOf ps stand x), stand.drop (spotOf ps stand x), by unfold comeTo; simp, ?_, ?_⟩
  · intro y hy
    unfold spotOf at hy
    cases e : lastP (frd ps x) stand with
    | none =>
      rw [e] at hy
      exact lastP_no.mp e y (List.mem_of_mem_drop hy)
    | some k =>
      rw [e] at hy
      obtain ⟨f, h1, h2, h3⟩ := lastP_some e
      obtain ⟨j, hj⟩ := List.mem_iff_getElem?.mp hy
      rw [List.getElem?_drop] at hj
      exact h3 _ y (by show k < k + 1 + j; omega) hj
  · unfold spotOf
    cases e : lastP (frd ps x) stand with
    | none =>
      refine .inr ⟨fun y hy => lastP_no.mp e y (List.mem_of_mem_take hy), ?_⟩
      show stand.drop stand.length = []
      exact List.drop_length
    | some k =>
      obtain ⟨f, h1, h2, h3⟩ := lastP_some e
      refine .inl ⟨stand.take k, f, ?_, h2⟩
      show stand.take (k + 1) = _
      rw [List.take_add_one, h1]
      rfl
theorem come_rem {ps : List (Str × Str)} {stand : List Str} {x : Str} (hd : (x :: stand).Nodup) : rem (comeTo ps stand x) x = stand := by
  have e : comeTo ps stand x = stand.take (spotOf ps stand x) ++ x :: stand.drop (spotOf ps stand x) := by
    unfold comeTo
    simp
  have hn : (comeTo ps stand x).Nodup := (come_perm ps stand x).nodup_iff.mpr hd
  rw [e] at hn ⊢
  rw [rem_split hn, List.take_append_drop]
/-- who is loose, taken out, comes in there again -/
theorem loose_come {ps : List (Str × Str)} {row : List Str} {x : Str} (irr : Irr ps) (hd : row.Nodup) (h : LooseIn ps row x) : comeTo ps (rem row x) x = row := by
  obtain ⟨a, b, e, hp⟩ := h
  have ei : row[a.length]? = some x := by rw [e]; simp
  have q := loose_iff (ps := ps) hd ei (irr x)
  rw [(looseB_iff e (irr x)).mpr hp] at q
  have z := of_decide_eq_true q
  have er : rem row x = row.take a.length ++ row.drop (a.length + 1) := by
    rw [e, rem_split (by rw [← e]; exact hd)]
    simp
  rw [er]
  exact z
/-! ### two more comparisons -/
section
variable {X : Cx}
def rNeT : R2 := fun x y H Q => ∃ (a b : Addr) (xs ys : List Str), x = .ref a ∧ y = .ref b ∧ TupAt H a (xs.map V.str) ∧ TupAt H b (ys.map V.str) ∧ Goods xs ∧ Goods ys ∧ Q (.bl (!decide (xs = ys))) H
theorem op_neT (hu : X.A.units + 64 < cLine) : OpR X (compareOp .NotEq) rNeT := by
  intro pins s σ H x y v u Q I rx ry h
  obtain ⟨a, b, xs, ys, rfl, rfl, ha, hb, g1, g2, q⟩ := h
  refine op_neD hu pins s σ H _ _ v u Q I rx ry ⟨_, _, .tup ha.sq (dp_strs xs), .tup hb.sq (dp_strs ys), sh_tuple g1, sh_tuple g2, ?_⟩
  have e : PyData.eqv (.tuple (xs.map .str)) (.tuple (ys.map .str)) = decide (xs = ys) := by
    rw [PyData.eqv, eqv_strs]
  rw [e]
  exact q
end
theorem Goods.rem {xs : List Str} {x : Str} (h : Goods xs) : Goods (Lk.rem xs x) := h.filter
theorem looseL_sub {ps : List (Str × Str)} {row : List Str} {x : Str} (h : x ∈ looseL ps row) : x ∈ row := by
  unfold looseL at h
  obtain ⟨⟨y, j⟩, hp, rfl⟩ := List.mem_map.mp h
  exact List.mem_of_getElem? (List.mem_zipIdx_iff_getElem?.mp (List.mem_filter.mp hp).1)
/-! ### promises -/
def spHostP : Sp := fun vs H Q _ => ∃ (d r : Addr) (ps : List (Str × Str)) (row : List Str) (who : Str), vs = [.ref d, .ref r, .str who] ∧ KnAt H d ps ∧ RowAt H r row ∧ row.length ≤ 100 ∧ who ∉ row ∧
  ∀ H', Same H H' → Q (lfpV (lastP (frd ps who) row)) H'
def spStood : Sp := fun vs H Q _ => ∃ (d r : Addr) (ps : List (Str × Str)) (row : List Str) (who : Str), vs = [.ref d, .ref r, .str who] ∧ KnAt H d ps ∧ RowAt H r row ∧ row.length ≤ 100 ∧ who ∉ row ∧
  ∀ t H', Same H H' → TupAt H' t ((comeTo ps row who).map V.str) → Q (.ref t) H'
def spLetIn : Sp := fun vs H Q _ => ∃ (a r : Addr) (ps : List (Str × Str)) (row : List Str) (who : Str), vs = [.ref a, .ref r, .str who] ∧ FrAt H a ps ∧ ps.length ≤ 1000 ∧ RowAt H r row ∧ row.length ≤ 100 ∧ who ∉ row ∧
  ∀ t H', Same H H' → TupAt H' t ((comeTo ps row who).map V.str) → Q (.ref t) H'
end Lk
set_option maxRecDepth 100000
set_option maxHeartbeats 4000000
namespace Lk
open PySem PySem.Spec PyProof.Rows L2

/-! ### how many that came later stand ahead -/
abbrev B3N := Addr × Str × Nat
def refsN (qs : List B3N) : List V := qs.map fun q => V.ref q.1
def PairsN (H : Hp) (qs : List B3N) : Prop := ∀ q ∈ qs, H q.1 = some (.tup [.str q.2.1, .int q.2.2])
theorem PairsN.same {H H' : Hp} {qs : List B3N} (s : Same H H') (h : PairsN H qs) : PairsN H' qs := fun b hb => s _ _ (h b hb)
theorem PairsN.oth {H H' : Hp} {b : Addr} {qs : List B3N} (s : Oth b H H') (hb : IsBox H b) (h : PairsN H qs) : PairsN H' qs := fun c hc => s _ _ (hb.ne_tup (h c hc)) (h c hc)
theorem PairsN.upd_ {H : Hp} {l : Addr} {ys : List V} {o' : HO} {qs : List B3N} (hl : H l = some (.lst ys)) (h : PairsN H qs) : PairsN (upd H l o') qs := fun c hc => (upd_ne (ne_of (h c hc) hl (fun z => nomatch z))).trans (h c hc)
theorem idx_at {order : List Str} {i : Nat} {x : Str} (hd : order.Nodup) (h : order[i]? = some x) : order.idxOf x = i := by
  have hx : x ∈ order := List.mem_of_getElem? h
  have hl : order.idxOf x < order.length := List.idxOf_lt_length_iff.mpr hx
  have e : order[order.idxOf x]? = some x := by
    rw [List.getElem?_eq_getElem hl, List.getElem_idxOf]
  exact nd_ix hd e h
/-! ### a walk's dict comprehension -/
theorem dc_it {J : It} {n : Nat} {G : Hp → Prop} {Y : Nat → Hp → V → Hp → Prop} (w : Walk J n G Y) {g : TG} {tt : TT} {tk tv : TE} {vs : List Nat} {σ : L2.St} {H1 : Hp} {D : Addr} {Qd : Hp → Prop} (Pv : Nat → Hp → Prop) (h0 : Pv 0 (upd H1 D (.dK []))) (hG : ∀ i H, i ≤ n → Pv i H → G H)
    (hs : ∀ i x H H', i < n → Pv i H → Y i H x H' → g x (wipe σ vs) H' fun σ2 H2 => wipe σ2 vs = wipe σ vs ∧ tt σ2 H2 fun b H3 =>
      if b = true then tk σ2 H3 fun y H4 => tv σ2 H4 fun z H5 => ∃ kvs k, y = kV k ∧ H5 D = some (.dK kvs) ∧ kvs.length < sizeLine ∧ Pv (i + 1) (upd H5 D (.dK (putK kvs k z))) else Pv (i + 1) H3) (hd : ∀ H, Pv n H → Qd H) :
    ∃ W : Nat → Nat → Hp → Prop, (∃ m, W 0 m (upd H1 D (.dK []))) ∧ ∀ i m H, W i m H →
      (J.stop i H ∧ Qd H) ∨ (J.go i H ∧ ∃ Nx : Hp → Prop, (∀ H', Nx H' → ∃ m', m' < m ∧ W (i + 1) m' H') ∧ ∀ x H', J.yld i H x H' → g x (wipe σ vs) H' fun σ2 H2 => wipe σ2 vs = wipe σ vs ∧ tt σ2 H2 fun b H3 =>
        if b = true then tk σ2 H3 fun y H4 => tv σ2 H4 fun z H5 => ∃ kvs k, y = kV k ∧ H5 D = some (.dK kvs) ∧ kvs.length < sizeLine ∧ Nx (upd H5 D (.dK (putK kvs k z))) else Nx H3) := by
  refine ⟨fun i m H => m = n - i ∧ i ≤ n ∧ Pv i H, ⟨n, by simp, Nat.zero_le _, h0⟩, fun i m H hW => ?_⟩
  obtain ⟨rfl, hi, p⟩ := hW
  have q := hG i H hi p
  by_cases hlt : i < n
  · exact .inr ⟨w.goes i H hlt q, Pv (i + 1), fun H' p' => ⟨n - (i + 1), by omega, rfl, hlt, p'⟩, fun x H' y => hs i x H H' hlt p (w.yields i H x H' hlt q y)⟩
  · have e : i = n := by omega
    subst e
    exact .inl ⟨w.stops H q, hd H p⟩
theorem putK_lenK {kvs : List (Key × V)} {k : Key} {v : V} : (putK kvs k v).length ≤ kvs.length + 1 := by
  unfold putK
  split
  · rw [List.length_map]
    omega
  · rw [List.length_append]
    exact Nat.le_refl _
def CameTo (order : List Str) (i : Nat) (kvs : List (Key × V)) : Prop := kvs.length ≤ i ∧ ∀ x ∈ order.take i, valV kvs (.inr x) = some (.int (order.idxOf x : Nat))
theorem came_step {order : List Str} {i : Nat} {o : Str} {kvs : List (Key × V)} (hd : order.Nodup) (ho : order[i]? = some o) (h : CameTo order i kvs) : CameTo order (i + 1) (putK kvs (.inr o) (.int (i : Nat))) := by
  obtain ⟨h1, h2⟩ := h
  have pl := putK_lenK (kvs := kvs) (k := .inr o) (v := V.int (i : Nat))
  refine ⟨by omega, fun x hx => ?_⟩
  rw [valV_put]
  by_cases c : x = o
  · subst c
    rw [if_pos rfl, idx_at hd ho]
  · rw [if_neg (fun z => c (Sum.inr.inj z))]
    refine h2 x ?_
    rw [List.take_add_one, ho] at hx
    rcases List.mem_append.mp hx with z | z
    · exact z
    · exact absurd (List.mem_singleton.mp z) c

/-! ### promises -/
end Lk
set_option maxRecDepth 100000
set_option maxHeartbeats 4000000
namespace Lk
open PySem PySem.Spec PyProof.Rows L2

/-! ### who goes, one after another: the hindmost one first -/
def someTo (ps : List (Str × Str)) (stay row : List Str) (n : Nat) : List Str := (looseTo ps row n).filter fun x => !decide (x ∈ stay)
def someL (ps : List (Str × Str)) (stay row : List Str) : List Str := (looseL ps row).filter fun x => !decide (x ∈ stay)
theorem someTo_all (ps : List (Str × Str)) (stay row : List Str) : someTo ps stay row row.length = someL ps stay row := by
  unfold someTo someL
  rw [looseTo_all]
theorem someTo_step {ps : List (Str × Str)} {stay row : List Str} {i : Nat} {x : Str} (h : row[i]? = some x) : someTo ps stay row (i + 1) = someTo ps stay row i ++ if (!decide (x ∈ stay) && looseB ps row i x) = true then [x] else [] := by
  unfold someTo
  rw [looseTo_step h, List.filter_append]
  congr 1
  by_cases c : looseB ps row i x = true
  · rw [if_pos c, c, Bool.and_true, List.filter_cons, List.filter_nil]
  · rw [if_neg c]
    simp [c]
theorem someL_sub {ps : List (Str × Str)} {stay row : List Str} {x : Str} (h : x ∈ someL ps stay row) : x ∈ looseL ps row ∧ x ∉ stay := by
  obtain ⟨h1, h2⟩ := List.mem_filter.mp h
  refine ⟨h1, ?_⟩
  simpa using h2
theorem someL_in {ps : List (Str × Str)} {stay row : List Str} {x : Str} (h : x ∈ looseL ps row) (hs : x ∉ stay) : x ∈ someL ps stay row :=
  List.mem_filter.mpr ⟨h, by simpa using hs⟩
def goneN (ps : List (Str × Str)) (stay : List Str) : Nat → List Str → List Str × List Str
  | 0, row => ([], row)
  | n + 1, row => match (someL ps stay row).getLast? with
    | none => ([], row)
    | some x => (x :: (goneN ps stay n (rem row x)).1, (goneN ps stay n (rem row x)).2)
def goneO (ps : List (Str × Str)) (stay row : List Str) : List Str := (goneN ps stay row.length row).1
def goneR (ps : List (Str × Str)) (stay row : List Str) : List Str := (goneN ps stay row.length row).2
theorem gone_none {ps : List (Str × Str)} {stay row : List Str} (h : someL ps stay row = []) : goneO ps stay row = [] ∧ goneR ps stay row = row := by
  unfold goneO goneR
  cases row.length with
  | zero => exact ⟨rfl, rfl⟩
  | succ n =>
    unfold goneN
    rw [h]
    exact ⟨rfl, rfl⟩
theorem last_mem {α : Type} {l : List α} {x : α} (h : l.getLast? = some x) : x ∈ l := by
  obtain ⟨ys, e⟩ := List.getLast?_eq_some_iff.mp h
  rw [e]
  simp
theorem gone_some {ps : List (Str × Str)} {stay row : List Str} {x : Str} (hd : row.Nodup) (h : (someL ps stay row).getLast? = some x) : goneO ps stay row = x :: goneO ps stay (rem row x) ∧ goneR ps stay row = goneR ps stay (rem row x) := by
  have hx := looseL_sub (someL_sub (last_mem h)).1
  have rl := rem_len hd hx
  unfold goneO goneR
  rw [← rl]
  show (goneN ps stay ((rem row x).length + 1) row).1 = _ ∧ _
  unfold goneN
  rw [h]
  cases (rem row x).length <;> exact ⟨rfl, rfl⟩
theorem gone_red {ps : List (Str × Str)} {stay : List Str} (irr : Irr ps) : ∀ (n : Nat) (row : List Str), row.length = n → row.Nodup → Red ps stay row (goneR ps stay row) ∧ Nf ps stay (goneR ps stay row) ∧ (goneO ps stay row).length ≤ n
  | n, row, hn, hd => by
    cases e : (someL ps stay row).getLast? with
    | none =>
      have e' := List.getLast?_eq_none_iff.mp e
      obtain ⟨g1, g2⟩ := gone_none e'
      rw [g1, g2]
      refine ⟨.done row, fun x hx => ?_, Nat.zero_le _⟩
      refine Classical.byContradiction fun c => ?_
      have := someL_in ((looseL_iff irr hd).mpr hx) c
      rw [e'] at this
      cases this
    | some x =>
      obtain ⟨g1, g2⟩ := gone_some hd e
      obtain ⟨m1, m2⟩ := someL_sub (last_mem e)
      have lx := (looseL_iff irr hd).mp m1
      have rl := rem_len hd lx.mem
      match n, hn with
      | 0, hn => omega
      | n + 1, hn =>
        obtain ⟨i1, i2, i3⟩ := gone_red irr n (rem row x) (by omega) (rem_nodup hd)
        rw [g1, g2]
        refine ⟨.go x lx m2 i1, i2, ?_⟩
        rw [List.length_cons]
        omega
theorem gone_len {ps : List (Str × Str)} {stay : List Str} : ∀ (n : Nat) (row : List Str), row.length = n → row.Nodup → (goneO ps stay row).length + (goneR ps stay row).length = n
  | n, row, hn, hd => by
    cases e : (someL ps stay row).getLast? with
    | none =>
      obtain ⟨g1, g2⟩ := gone_none (List.getLast?_eq_none_iff.mp e)
      rw [g1, g2]
      show 0 + row.length = n
      omega
    | some x =>
      obtain ⟨g1, g2⟩ := gone_some hd e
      have hx := looseL_sub (someL_sub (last_mem e)).1
      have rl := rem_len hd hx
      match n, hn with
      | 0, hn => omega
      | n + 1, hn =>
        have ih := gone_len (ps := ps) (stay := stay) n (rem row x) (by omega) (rem_nodup hd)
        rw [g1, g2, List.length_cons]
        omega
theorem Red.nodup {ps : List (Str × Str)} {stay row n : List Str} (h : Red ps stay row n) : row.Nodup → n.Nodup := by
  induction h with
  | done row => exact id
  | go x h hs t ih => exact fun hd => ih (rem_nodup hd)
theorem Red.len {ps : List (Str × Str)} {stay row n : List Str} (h : Red ps stay row n) : n.length ≤ row.length := by
  induction h with
  | done row => exact Nat.le_refl _
  | go x h hs t ih => exact Nat.le_trans ih (List.length_filter_le _ _)
theorem Red.sub {ps : List (Str × Str)} {stay row n : List Str} (h : Red ps stay row n) : ∀ y ∈ n, y ∈ row := by
  induction h with
  | done row => exact fun _ h => h
  | go x h hs t ih => exact fun y hy => (List.mem_filter.mp (ih y hy)).1
theorem erase_rem {row : List Str} {i : Nat} {x : Str} (hd : row.Nodup) (h : row[i]? = some x) : row.eraseIdx i = rem row x := by
  have e := split_at h
  have hi : i < row.length := (List.getElem?_eq_some_iff.mp h).1
  have e2 : rem row x = row.take i ++ row.drop (i + 1) := by
    rw [show rem row x = rem (row.take i ++ x :: row.drop (i + 1)) x by rw [← e]]
    exact rem_split (by rw [← e]; exact hd)
  rw [e2, List.eraseIdx_eq_take_drop_succ]
theorem erase_map {α : Type} (f : α → V) (xs : List α) (i : Nat) : (xs.map f).eraseIdx i = (xs.eraseIdx i).map f := by
  rw [List.eraseIdx_eq_take_drop_succ, List.eraseIdx_eq_take_drop_succ, List.map_append, List.map_take, List.map_drop]

/-! ### promises -/
def ButAt (K : PySem.W.Frag) (H : Hp) (p : Addr) (stay : List Str) : Prop := SqL K H p (stay.map V.str) ∨ SqT K H p (stay.map V.str)
def hindV (row : List Str) (out : Option Str) (v : V) : Prop := match out with
  | none => v = .non
  | some x => ∃ i : Nat, v = .int i ∧ row[i]? = some x
/-- the but list does not change -/
def ButKeeps (K : PySem.W.Frag) (H : Hp) (p : Addr) (stay : List Str) : Prop := ∀ H', Same H H' → ButAt K H' p stay
def spHind (K : PySem.W.Frag) : Sp := fun vs H Q _ => ∃ (d r p : Addr) (ps : List (Str × Str)) (row stay : List Str), vs = [.ref d, .ref r, .ref p] ∧ KnAt H d ps ∧ H r = some (.lst (row.map V.str)) ∧ row.length ≤ 100 ∧ (∀ H', Same H H' → ButAt K H' p stay) ∧
  ∀ v H', Same H H' → hindV row (someL ps stay row).getLast? v → Q v H'
def spStayed (K : PySem.W.Frag) : Sp := fun vs H Q _ => ∃ (d r p : Addr) (ps : List (Str × Str)) (row stay : List Str), vs = [.ref d, .ref r, .ref p] ∧ KnAt H d ps ∧ RowAt H r row ∧ row.Nodup ∧ row.length ≤ 100 ∧ (∀ H', Same H H' → ButAt K H' p stay) ∧
  ∀ T g t H', Same H H' → H g = none → H' T = some (.tup [.ref g, .ref t]) → H' g = some (.lst ((goneO ps stay row).map V.str)) → TupAt H' t ((goneR ps stay row).map V.str) → Q (.ref T) H'
end Lk
set_option maxRecDepth 100000
set_option maxHeartbeats 4000000
namespace Lk
open PySem PySem.Spec PyProof.Rows L2
section
variable {X : Cx}
end
theorem PalsAt.upd_ {H : Hp} {l a : Addr} {ys : List V} {o' : HO} {ps : List (Str × Str)} (h : PalsAt H a ps) (hl : H l = some (.lst ys)) : PalsAt (upd H l o') a ps := by
  obtain ⟨bs, h1, h2, h3⟩ := h
  exact ⟨bs, (upd_ne (ne_of h1 hl (fun z => nomatch z))).trans h1, fun c hc => (upd_ne (ne_of (h2 c hc) hl (fun z => nomatch z))).trans (h2 c hc), h3⟩
/-! ### the law's own going -/
/-! ### a def with one keyword-only parameter that has a default -/
structure Cal3 (P : Program) (w : World) (K : PySem.W.Frag) (mg : Str → Option Value) (base : Heap) (k : Nat) (x : Str) (sp : Sp) (E : Addr) : Prop where
  ex : ∃ f fd, FnOk P w K mg base CX0 k f fd ["friends", "row", "but"] sp ∧ mg x = some (.ref f) ∧ PySem.W.keepIn K (.ref f) = true ∧ KBn K fd ["friends", "row", "but"] 2 ["but"] (fun us ws => us ++ ws) (fun vs zs => vs ++ zs) ∧ KBinds K fd ["friends", "row", "but"] ["but", "row", "friends"] gRev gRev ∧ (∃ ds, Vals [V.ref E] ds ∧ Binds K fd ["friends", "row", "but"] ds) ∧
    (∃ mv : List Value, KBn K fd ["friends", "row", "but"] 0 ["row", "friends"] (fun us ws => ws.reverse ++ mv) (fun vs zs => zs.reverse ++ [V.ref E]))
  emp : ∃ (o : Obj) (n : Nat), K.lookup E = some o ∧ o.cls = .type "tuple" ∧ o.data = .seq #[] n
theorem Cal3.but {P : Program} {w : World} {K : PySem.W.Frag} {mg : Str → Option Value} {base : Heap} {k : Nat} {x : Str} {sp : Sp} {E : Addr} (C : Cal3 P w K mg base k x sp E) (H : Hp) : ButAt K H E [] := by
  obtain ⟨o, n, h1, h2, h3⟩ := C.emp
  exact .inr (.inr ⟨o, #[], n, h1, h2, h3, Nat.zero_le _, .nil⟩)
section
variable {X : Cx} {k : Nat} {x : Str} {sp : Sp} {D : Addr} {p pos : Pos} {e : Expr} {es : List Expr} {t tk : TA} {kws : List Keyword}
end
abbrev p3 : List Str := ["friends", "row", "but"]
end Lk
set_option maxRecDepth 100000
set_option maxHeartbeats 4000000
namespace Lk
open PySem PySem.Spec PyProof.Rows L2

/-! ### of those who are left each bars one of them -/
def Ahead (row : List Str) (h x : Str) : Prop := ∃ a b, row = a ++ x :: b ∧ h ∈ a
theorem frd_sym (ps : List (Str × Str)) (a b : Str) : frd ps a b = frd ps b a := by
  exact frd_comm ps a b
theorem Ahead.mem {row : List Str} {h x : Str} (k : Ahead row h x) : h ∈ row ∧ x ∈ row := by
  obtain ⟨a, b, rfl, m⟩ := k
  exact ⟨List.mem_append_left _ m, by simp⟩
theorem Ahead.lt {row : List Str} {h x : Str} {i j : Nat} (hd : row.Nodup) (k : Ahead row h x) (hi : row[i]? = some h) (hj : row[j]? = some x) : i < j := by
  obtain ⟨a, b, rfl, m⟩ := k
  have e1 : (a ++ x :: b)[a.length]? = some x := by simp
  have e2 := nd_ix hd hj e1
  obtain ⟨n, hn⟩ := List.mem_iff_getElem?.mp m
  have ln : n < a.length := (List.getElem?_eq_some_iff.mp hn).1
  have e3 : (a ++ x :: b)[n]? = some h := by
    rw [List.getElem?_append_left ln]
    exact hn
  have e4 := nd_ix hd hi e3
  omega
theorem rem_app (a b : List Str) {x y : Str} (ne : x ≠ y) : rem (a ++ x :: b) y = rem a y ++ x :: rem b y := by
  unfold rem
  rw [List.filter_append, List.filter_cons]
  simp [ne]
theorem mem_rem {row : List Str} {x y : Str} : x ∈ rem row y ↔ x ∈ row ∧ x ≠ y := by
  unfold rem
  rw [List.mem_filter]
  simp
theorem Ahead.rem {row : List Str} {h x y : Str} (k : Ahead row h x) (n1 : h ≠ y) (n2 : x ≠ y) : Ahead (Lk.rem row y) h x := by
  obtain ⟨a, b, rfl, m⟩ := k
  exact ⟨Lk.rem a y, Lk.rem b y, rem_app a b n2, mem_rem.mpr ⟨m, n1⟩⟩
theorem Ahead.of_rem {row : List Str} {h x y : Str} (hd : row.Nodup) (k : Ahead (Lk.rem row y) h x) : Ahead row h x := by
  have hx := mem_rem.mp k.mem.2
  obtain ⟨a', b', e', m⟩ := k
  obtain ⟨a, b, e⟩ := List.append_of_mem hx.1
  have e2 : Lk.rem row y = Lk.rem a y ++ x :: Lk.rem b y := by rw [e]; exact rem_app a b hx.2
  have u := split_uniq (rem_nodup hd) e' e2
  rw [u.1] at m
  exact ⟨a, b, e, (mem_rem.mp m).1⟩
theorem Red.ahead {ps : List (Str × Str)} {stay row n : List Str} (r : Red ps stay row n) : row.Nodup → ∀ {h x : Str}, Ahead n h x → Ahead row h x := by
  induction r with
  | done row => exact fun _ {h x} k => k
  | go y hy hs t ih => exact fun hd {h x} k => (ih (rem_nodup hd) k).of_rem hd
theorem Red.keeps {ps : List (Str × Str)} {stay row n : List Str} (r : Red ps stay row n) : row.Nodup → ∀ {h x : Str}, x ∈ n → Ahead row h x → frd ps x h = true → Ahead n h x := by
  induction r with
  | done row => exact fun _ {h x} _ k _ => k
  | @go row n y hy hs t ih =>
    intro hd h x hx k hf
    have nx : x ≠ y := (mem_rem.mp (t.sub x hx)).2
    have nh : h ≠ y := fun z => by
      subst z
      obtain ⟨a, b, e, q1, _⟩ := hy
      obtain ⟨a', b', e', m⟩ := k
      have hxb : x ∈ b := by
        have hx' : x ∈ a ++ h :: b := by rw [← e, e']; simp
        rcases List.mem_append.mp hx' with z | z
        · exfalso
          obtain ⟨i, hi⟩ := List.mem_iff_getElem?.mp z
          have li : i < a.length := (List.getElem?_eq_some_iff.mp hi).1
          have r1 : row[i]? = some x := by rw [e, List.getElem?_append_left li]; exact hi
          have r2 : row[a.length]? = some h := by rw [e]; simp
          have := Ahead.lt hd ⟨a', b', e', m⟩ r2 r1
          omega
        · rcases List.mem_cons.mp z with z | z
          · exact absurd z nx
          · exact z
      have := q1 x hxb
      rw [frd_sym] at this
      rw [this] at hf
      cases hf
    exact ih (rem_nodup hd) hx (k.rem nh nx) hf
theorem optW_mem (w : Str) : w ∈ optW true w := by
  unfold optW
  simp
theorem words_friend {ps : List (Str × Str)} {row : List Str} {one other : Str} {i j : Nat} (h : i < j) (f : frd ps one other = true) : wordsOf ps row one other i j ≠ [] := fun z => by
  have m : ("friend" : Str) ∈ wordsOf ps row one other i j := by
    unfold wordsOf
    refine List.mem_append_right _ ?_
    rw [decide_eq_true h, f]
    exact optW_mem _
  rw [z] at m
  cases m
theorem words_behind {ps : List (Str × Str)} {row : List Str} {one other : Str} {i j : Nat} (h : i < j) (f : lastP (frd ps one) (row.take i) = none) : wordsOf ps row one other i j ≠ [] := fun z => by
  have m : ("behind" : Str) ∈ wordsOf ps row one other i j := by
    unfold wordsOf
    refine List.mem_append_left _ (List.mem_append_left _ ?_)
    rw [decide_eq_true h, decide_eq_true f]
    exact optW_mem _
  rw [z] at m
  cases m
theorem words_between {ps : List (Str × Str)} {row : List Str} {one other : Str} {i j k : Nat} (f : lastP (frd ps one) (row.take i) = some k) (h1 : k < j) (h2 : j < i) : wordsOf ps row one other i j ≠ [] := fun z => by
  have m : ("between" : Str) ∈ wordsOf ps row one other i j := by
    unfold wordsOf
    refine List.mem_append_left _ (List.mem_append_right _ ?_)
    rw [f]
    show _ ∈ optW (decide (k < j) && decide (j < i)) "between"
    rw [decide_eq_true h1, decide_eq_true h2]
    exact optW_mem _
  rw [z] at m
  cases m
theorem words_self {ps : List (Str × Str)} {row : List Str} {x : Str} {i : Nat} (hl : i ≤ row.length) : wordsOf ps row x x i i = [] := by
  unfold wordsOf
  rw [decide_eq_false (Nat.lt_irrefl i), Bool.and_false, Bool.false_and]
  have : btw i i (lastP (frd ps x) (row.take i)) = false := by
    unfold btw
    split
    · rfl
    · rw [decide_eq_false (Nat.lt_irrefl i), Bool.and_false]
  rw [this]
  rfl
theorem bars_left {ps : List (Str × Str)} {row left : List Str} {x : Str} {i : Nat} (hd : row.Nodup) (r : Red ps [] row left) (nf : Nf ps [] left) (hx : x ∈ left) (hi : row[i]? = some x) : ∃ z j, z ∈ left ∧ row[j]? = some z ∧ wordsOf ps row x z i j ≠ [] := by
  have ndl := r.nodup hd
  obtain ⟨a, b, e⟩ := List.append_of_mem hx
  have nl : ¬ LooseP ps a b x := fun z => by
    have := nf x ⟨a, b, e, z⟩
    cases this
  have place : ∀ z ∈ left, ∃ j, row[j]? = some z := fun z hz => List.mem_iff_getElem?.mp (r.sub z hz)
  have behind : ∀ z ∈ b, Ahead left x z := fun z hz => by
    obtain ⟨b1, b2, eb⟩ := List.append_of_mem hz
    exact ⟨a ++ x :: b1, b2, by rw [e, eb]; simp, by simp⟩
  by_cases c : ∃ y ∈ b, frd ps x y = true
  · obtain ⟨y, hy, f⟩ := c
    have my : y ∈ left := by rw [e]; simp [hy]
    obtain ⟨j, hj⟩ := place y my
    exact ⟨y, j, my, hj, words_friend ((r.ahead hd (behind y hy)).lt hd hi hj) f⟩
  · have nb : ∀ y ∈ b, frd ps x y = false := fun y hy => by
      cases f : frd ps x y with
      | false => rfl
      | true => exact absurd ⟨y, hy, f⟩ c
    have ahd : ∀ y ∈ a, Ahead left y x := fun y hy => ⟨a, b, e, hy⟩
    cases hk : lastP (frd ps x) (row.take i) with
    | none =>
      have na := lastP_no.mp hk
      have nfa : ∀ y ∈ a, frd ps x y = false := fun y hy => by
        obtain ⟨j, hj⟩ := place y (ahd y hy).mem.1
        have lt := (r.ahead hd (ahd y hy)).lt hd hj hi
        refine na y (List.mem_iff_getElem?.mpr ⟨j, ?_⟩)
        rw [List.getElem?_take, if_pos lt]
        exact hj
      cases b with
      | nil => exact absurd ⟨nb, .inr ⟨nfa, rfl⟩⟩ nl
      | cons z b' =>
        have mz : z ∈ left := by rw [e]; simp
        obtain ⟨j, hj⟩ := place z mz
        exact ⟨z, j, mz, hj, words_behind ((r.ahead hd (behind z (List.mem_cons_self ..))).lt hd hi hj) hk⟩
    | some k =>
      obtain ⟨h, h1, h2, h3⟩ := lastP_some hk
      have hki : k < i := by
        have := lastP_lt hk
        rw [List.length_take] at this
        omega
      rw [List.getElem?_take, if_pos hki] at h1
      have ahr : Ahead row h x := by
        have sp := split_at hi
        refine ⟨row.take i, row.drop (i + 1), sp, List.mem_iff_getElem?.mpr ⟨k, ?_⟩⟩
        rw [List.getElem?_take, if_pos hki]
        exact h1
      obtain ⟨a', b', e', m⟩ := r.keeps hd hx ahr h2
      have u := split_uniq ndl e' e
      rw [u.1] at m
      obtain ⟨a1, a2, ea⟩ := List.append_of_mem m
      cases a2 with
      | nil => exact absurd ⟨nb, .inl ⟨a1, h, ea, h2⟩⟩ nl
      | cons z a3 =>
        have mz : z ∈ left := by rw [e, ea]; simp
        obtain ⟨j, hj⟩ := place z mz
        have k1 : Ahead left h z := ⟨a1 ++ [h], a3 ++ x :: b, by rw [e, ea]; simp, by simp⟩
        have k2 : Ahead left z x := ahd z (by rw [ea]; simp)
        exact ⟨z, j, mz, hj, words_between hk ((r.ahead hd k1).lt hd h1 hj) ((r.ahead hd k2).lt hd hj hi)⟩
theorem nd_len : ∀ (l m : List Str), l.Nodup → (∀ x ∈ l, x ∈ m) → l.length ≤ m.length
  | [], _, _, _ => Nat.zero_le _
  | x :: l, m, h, s => by
    obtain ⟨n1, n2⟩ := List.nodup_cons.mp h
    obtain ⟨a, b, e⟩ := List.append_of_mem (s x (List.mem_cons_self ..))
    have ih := nd_len l (a ++ b) n2 fun y hy => by
      have ne : y ≠ x := fun z => n1 (z ▸ hy)
      have := s y (List.mem_cons_of_mem _ hy)
      rw [e] at this
      rcases List.mem_append.mp this with z | z
      · exact List.mem_append_left _ z
      · rcases List.mem_cons.mp z with z | z
        · exact absurd z ne
        · exact List.mem_append_right _ z
    rw [List.length_append] at ih
    rw [e, List.length_append, List.length_cons, List.length_cons]
    omega
/-! ### rings -/
def wordsAt (ps : List (Str × Str)) (row : List Str) (a b : Str) : List Str := wordsOf ps row a b (row.idxOf a) (row.idxOf b)
def barredL (ps : List (Str × Str)) (row left : List Str) (who : Str) : List (Str × Str) := left.flatMap fun o => (wordsAt ps row who o).map fun w => (o, w)
def nextB (ps : List (Str × Str)) (row left : List Str) (who : Str) : Str × Str := (barredL ps row left who).headD (who, "")
def ringN (ps : List (Str × Str)) (row left : List Str) : Nat → List (Str × Str) → Str → List (Str × Str)
  | 0, path, _ => path
  | n + 1, path, who => if who ∈ path.map (·.1) then path.drop ((path.map (·.1)).idxOf who) else ringN ps row left n (path ++ [(who, (nextB ps row left who).2)]) (nextB ps row left who).1
def ringOf (ps : List (Str × Str)) (row left : List Str) : List (Str × Str) := ringN ps row left (left.length + 1) [] (left.headD "")
theorem barred_mem {ps : List (Str × Str)} {row left : List Str} {who : Str} {q : Str × Str} : q ∈ barredL ps row left who ↔ q.1 ∈ left ∧ q.2 ∈ wordsAt ps row who q.1 := by
  unfold barredL
  rw [List.mem_flatMap]
  constructor
  · rintro ⟨o, ho, m⟩
    obtain ⟨w, hw, rfl⟩ := List.mem_map.mp m
    exact ⟨ho, hw⟩
  · rintro ⟨h1, h2⟩
    exact ⟨q.1, h1, List.mem_map.mpr ⟨q.2, h2, rfl⟩⟩
theorem barred_ne {ps : List (Str × Str)} {row left : List Str} {x : Str} (hd : row.Nodup) (r : Red ps [] row left) (nf : Nf ps [] left) (hx : x ∈ left) : barredL ps row left x ≠ [] := fun e => by
  obtain ⟨i, hi⟩ := List.mem_iff_getElem?.mp (r.sub x hx)
  obtain ⟨z, j, mz, hj, hw⟩ := bars_left hd r nf hx hi
  obtain ⟨w, hw⟩ := List.exists_mem_of_ne_nil _ hw
  have m : (z, w) ∈ barredL ps row left x := barred_mem.mpr ⟨mz, by
    show w ∈ wordsOf ps row x z (row.idxOf x) (row.idxOf z)
    rw [idx_at hd hi, idx_at hd hj]
    exact hw⟩
  rw [e] at m
  cases m
theorem next_mem {ps : List (Str × Str)} {row left : List Str} {x : Str} (h : barredL ps row left x ≠ []) : nextB ps row left x ∈ barredL ps row left x := by
  unfold nextB
  cases e : barredL ps row left x with
  | nil => exact absurd e h
  | cons q l => exact List.mem_cons_self ..
structure RingOk (ps : List (Str × Str)) (row left : List Str) (ring : List (Str × Str)) : Prop where
  two : 2 ≤ ring.length
  nd : (ring.map (·.1)).Nodup
  sub : ∀ x ∈ ring.map (·.1), x ∈ left
  bar : ∀ (i : Nat) (x w y : Str), ring[i]? = some (x, w) → ((ring.map (·.1)).drop 1 ++ (ring.map (·.1)).take 1)[i]? = some y → w ∈ wordsAt ps row x y
theorem ring_ok {ps : List (Str × Str)} {row left : List Str} (hd : row.Nodup) (r : Red ps [] row left) (nf : Nf ps [] left) : ∀ (m : Nat) (path : List (Str × Str)) (who : Str), m + path.length = left.length + 1 → (path.map (·.1)).Nodup → (∀ x ∈ path.map (·.1), x ∈ left) → who ∈ left →
    (∀ (i : Nat) (x w : Str), path[i]? = some (x, w) → ∃ y, (path.map (·.1) ++ [who])[i + 1]? = some y ∧ w ∈ wordsAt ps row x y) → RingOk ps row left (ringN ps row left m path who)
  | 0, path, who, hm, hn, hs, hw, hc => by
    have := nd_len _ _ hn hs
    rw [List.length_map] at this
    omega
  | m + 1, path, who, hm, hn, hs, hw, hc => by
    unfold ringN
    by_cases c : who ∈ path.map (·.1)
    · rw [if_pos c]
      have hk : (path.map (·.1)).idxOf who < (path.map (·.1)).length := List.idxOf_lt_length_iff.mpr c
      have ek : (path.map (·.1))[(path.map (·.1)).idxOf who]? = some who := by rw [List.getElem?_eq_getElem hk, List.getElem_idxOf]
      generalize (path.map (·.1)).idxOf who = k at hk ek
      rw [List.length_map] at hk
      have bar : ∀ (i : Nat) (x w y : Str), (path.drop k)[i]? = some (x, w) → (((path.drop k).map (·.1)).drop 1 ++ ((path.drop k).map (·.1)).take 1)[i]? = some y → w ∈ wordsAt ps row x y := by
        intro i x w y h1 h2
        rw [List.getElem?_drop] at h1
        obtain ⟨y', h3, h4⟩ := hc _ x w h1
        have et : ((path.drop k).map (·.1)).take 1 = [who] := by
          rw [List.map_drop]
          have hne : (path.map (·.1)).drop k = who :: (path.map (·.1)).drop (k + 1) := by
            rw [List.getElem?_eq_some_iff] at ek
            obtain ⟨q1, q2⟩ := ek
            rw [List.drop_eq_getElem_cons q1, q2]
          rw [hne]
          rfl
        have ed : (path.map (·.1) ++ [who])[k + i + 1]? = (((path.drop k).map (·.1)).drop 1 ++ ((path.drop k).map (·.1)).take 1)[i]? := by
          rw [et, List.map_drop, List.drop_drop, ← List.drop_append_of_le_length (l₂ := [who]) (by rw [List.length_map]; omega), List.getElem?_drop]
          congr 1
          omega
        rw [ed, h2] at h3
        cases h3
        exact h4
      have nd' : ((path.drop k).map (·.1)).Nodup := by
        rw [List.map_drop]
        exact hn.sublist (List.drop_sublist _ _)
      refine ⟨?_, nd', fun x hx => hs x ?_, bar⟩
      · rw [List.length_drop]
        refine Classical.byContradiction fun z => ?_
        have e1 : k + 1 = path.length := by omega
        obtain ⟨⟨x, w⟩, hx⟩ : ∃ q, path[k]? = some q := ⟨path[k]'hk, List.getElem?_eq_getElem hk⟩
        have ex : x = who := by
          rw [List.getElem?_map, hx] at ek
          exact Option.some.inj ek
        have ed : (path.drop k) = [(x, w)] := by
          have q := (List.getElem?_eq_some_iff.mp hx)
          rw [List.drop_eq_getElem_cons hk, q.2, List.drop_eq_nil_of_le (by omega)]
        have := bar 0 x w x (by rw [ed]; rfl) (by rw [ed]; rfl)
        have hxr : row.idxOf x ≤ row.length := List.idxOf_le_length
        unfold wordsAt at this
        rw [words_self hxr] at this
        cases this
      · rw [List.map_drop] at hx
        exact List.mem_of_mem_drop hx
    · rw [if_neg c]
      have nx := barred_mem.mp (next_mem (barred_ne hd r nf hw))
      refine ring_ok hd r nf m _ _ ?_ ?_ ?_ nx.1 ?_
      · rw [List.length_append]
        show m + (path.length + 1) = _
        omega
      · rw [List.map_append]
        refine List.nodup_append.mpr ⟨hn, by simp, ?_⟩
        intro x hx y hy
        have ey : y = who := by simpa using hy
        rw [ey]
        exact fun z => c (z ▸ hx)
      · intro x hx
        rw [List.map_append] at hx
        rcases List.mem_append.mp hx with z | z
        · exact hs x z
        · have : x = who := by simpa using z
          rw [this]
          exact hw
      · intro i x w h
        rw [List.map_append]
        show ∃ y, (path.map (·.1) ++ [who] ++ [(nextB ps row left who).1])[i + 1]? = some y ∧ _
        by_cases hi : i < path.length
        · rw [List.getElem?_append_left hi] at h
          obtain ⟨y, h1, h2⟩ := hc i x w h
          refine ⟨y, ?_, h2⟩
          rw [List.getElem?_append_left (by rw [List.length_append, List.length_map]; show i + 1 < path.length + 1; omega)]
          exact h1
        · have li : i < (path ++ [(who, (nextB ps row left who).2)]).length := (List.getElem?_eq_some_iff.mp h).1
          rw [List.length_append] at li
          have ei : i = path.length := by
            have : i < path.length + 1 := li
            omega
          subst ei
          have : (path ++ [(who, (nextB ps row left who).2)])[path.length]? = some (who, (nextB ps row left who).2) := by simp
          rw [this] at h
          cases h
          refine ⟨(nextB ps row left who).1, ?_, nx.2⟩
          have le : (path.map (·.1) ++ [who]).length = path.length + 1 := by rw [List.length_append, List.length_map]; rfl
          rw [← le]
          simp
theorem ringOf_ok {ps : List (Str × Str)} {row left : List Str} (hd : row.Nodup) (r : Red ps [] row left) (nf : Nf ps [] left) (ne : left ≠ []) : RingOk ps row left (ringOf ps row left) := by
  refine ring_ok hd r nf _ [] _ rfl List.nodup_nil (fun _ h => nomatch h) ?_ (fun i x w h => by simp at h)
  cases left with
  | nil => exact absurd rfl ne
  | cons a l => exact List.mem_cons_self ..
theorem ring_len {ps : List (Str × Str)} {row left : List Str} (h : RingOk ps row left ring) : ring.length ≤ left.length := by
  have := nd_len _ _ h.nd h.sub
  rw [List.length_map] at this
  exact this
/-! ### walks within walks -/
/-! ### promises -/
/-- what order_of tells: p the list in it -/
def OrdAt (H : Hp) (p : Addr) (word : Str) (ps : List (Str × Str)) (row : List Str) : Prop :=
  (goneR ps [] row = [] ∧ word = "order" ∧ H p = some (.lst ((goneO ps [] row).reverse.map V.str))) ∨ (goneR ps [] row ≠ [] ∧ word = "ring" ∧ ∃ bs : List B3, H p = some (.lst (refs bs)) ∧ PairsAt H bs ∧ bs.map (·.2) = ringOf ps row (goneR ps [] row))
theorem OrdAt.same {H H' : Hp} {p : Addr} {word : Str} {ps : List (Str × Str)} {row : List Str} (s : Same H H') (h : OrdAt H p word ps row) : OrdAt H' p word ps row :=
  h.elim (fun ⟨h1, h2, h3⟩ => .inl ⟨h1, h2, s _ _ h3⟩) (fun ⟨h1, h2, bs, h3, h4, h5⟩ => .inr ⟨h1, h2, bs, s _ _ h3, h4.same s, h5⟩)
end Lk
set_option maxRecDepth 100000
set_option maxHeartbeats 4000000
namespace Lk
open PySem PySem.Spec PyProof.Rows L2
/-! ### len(set(xs)), xs a list of texts, none of them twice -/
section
variable {P : Program} {w : World} {A : Around} {E : Value → Shared → Prop} {s : Shared}
theorem strs_loop {R : Result → Shared → Prop} {I S : Addr} {fp wr : List Addr} {G : Array GenState → Array GenState → Prop} {n : Nat} {Pv : Nat → Value → Prop} {St : Nat → Shared → Prop}
    (W : WalksS P w A.in1 I fp wr G n Pv St) (nf : S ∉ fp) {xs : List Str} (en : xs.length = n) (nd : xs.Nodup) (few : n + 1 < scanBound) (hv : ∀ i v, Pv i v → ∃ x t, xs[i]? = some x ∧ v = .str x t) :
    ∀ (m i : Nat) (s : Shared), i + m = n → St i s → s.heap.SetOf (PySem.strKind P w) S (fun y => decide (y ∈ xs.take i)) i →
      (∀ s', Moved (S :: wr) G s s' → s'.heap.SetOf (PySem.strKind P w) S (fun y => decide (y ∈ xs)) n → R (.ok (.ret .none)) s') →
      codeAny (model P w) A (.builtin "set.update.loop" ⟨[.ref S, .ref I], []⟩) R s := by
  have nw : S ∉ wr := fun h => nf (W.sub _ h)
  have more : ∀ b ∈ wr, b ∈ S :: wr := fun b => List.mem_cons_of_mem _
  have stays : ∀ {s s' : Shared} {T : Str → Bool} {c : Nat}, Moved wr G s s' → s.heap.SetOf (PySem.strKind P w) S T c → s'.heap.SetOf (PySem.strKind P w) S T c := fun hm ⟨o, es, ep, t, ho, rest⟩ => ⟨o, es, ep, t, hm.heap S _ nw ho, rest⟩
  intro m
  induction m with
  | zero =>
    intro i s e st so fin
    have ei : i = n := by omega
    subst ei
    refine codeAny_builtin PyProof.Rows.F.entry_set_update_loop ?_
    rw [Around.under_plainId PyProof.Rows.F.plain_set_update_loop _]
    show wpAny _ A.in1 (pyNext (.ref I) >>= _) _ _ s
    refine wpAny_bind (W.done s _ _ st fun s' hm => ?_)
    refine wpAny_pure (fin s' (hm.mono more) ?_)
    have so' := stays hm so
    rw [← en, List.take_length] at so'
    rw [← en]
    exact so'
  | succ m ih =>
    intro i s e st so fin
    refine codeAny_builtin PyProof.Rows.F.entry_set_update_loop ?_
    rw [Around.under_plainId PyProof.Rows.F.plain_set_update_loop _]
    show wpAny _ A.in1 (pyNext (.ref I) >>= _) _ _ s
    refine wpAny_bind (W.item i s _ _ (by omega) st fun v s' hP st' hm => ?_)
    obtain ⟨x, t, hx, rfl⟩ := hv i v hP
    have so' := stays hm so
    have out : x ∉ xs.take i := fun z => by
      obtain ⟨j, hj⟩ := List.mem_iff_getElem?.mp z
      rw [List.getElem?_take] at hj
      split at hj
      · have := nd_ix nd hj hx
        omega
      · cases hj
    show wpAny _ A.in1 (holding [Value.str x t] (setAdd S (.str x t)) >>= _) _ _ s'
    refine wpAny_bind (wpAny_holding ?_)
    unfold setAdd
    refine wpAny_holding (wpAny_bind ((PySem.strKind P w).pyHash (k := x) (strKind_is _ _ _ _) ?_))
    refine wpAny_setAddHashed_of (knd := PySem.strKind P w) (s := { s' with toks := s'.toks + 1 }) (strKind_is _ _ _ _) rfl so' (by omega) fun h' sb so2 => ?_
    have so3 : h'.SetOf (PySem.strKind P w) S (fun y => decide (y ∈ xs.take (i + 1))) (i + 1) := by
      refine SetOf_congr so2 (fun y => ?_) (by rw [decide_eq_false out]; rfl)
      rw [List.take_add_one, hx]
      by_cases c1 : y ∈ xs.take i <;> by_cases c2 : y = x <;> simp [c1, c2]
    refine wpAny_pure ⟨plainId_quiet PyProof.Rows.F.plain_set_update_loop _, ih (i + 1) _ (by omega) (W.frame _ s' _ _ st' (Nat.le_succ _) fun b hb o z => ?_) so3 fun s2 hm2 so4 => ?_⟩
    · have nb : b ≠ S := fun q => nf (q ▸ hb)
      exact (sb.2 b nb).trans z
    · refine fin s2 (Moved.trans W.gtrans ((hm.mono more).then_heap (Nat.le_succ _) fun b o hb z => ?_) hm2) so4
      have nb : b ≠ S := fun q => hb (q ▸ List.mem_cons_self)
      exact (sb.2 b nb).trans z
abbrev setOb (led : Bool) : Obj := { cls := .type "set", dict := none, data := .set #[] 0 (.fresh 0 0 led) }
theorem set_strs {l : Addr} {its : List Value} {xs : List Str} {Q : Value → Shared → Prop} (hh : A.handled = none) (hl : s.heap.IsList l its.toArray) (hi : PyProof.Rows.StrsAre its xs) (nd : xs.Nodup) (few : xs.length + 1 < scanBound)
    (h : ∀ (h' : Heap) (tk : Nat), h'.SetOf (PySem.strKind P w) s.heap.objs.size (fun y => decide (y ∈ xs)) xs.length → (∀ b o, s.heap.get? b = some o → h'.get? b = some o) → Q (.ref s.heap.objs.size) { s with heap := h', toks := tk }) :
    wpAny (model P w) A (call (.type "set") [.ref l]) Q E s := by
  obtain ⟨c, tl, hmro⟩ := PySem.F.called_set.mro
  have k1 := PySem.F.called_set.made
  have k2 := PySem.F.called_set.sub
  refine wpAny_call (codeAny_of_tree (show wpAny _ _ (callAny (.type "set") _) _ _ _ from wpAny_pure ⟨Code.quiet_builtin _ (by decide +kernel), codeAny_builtin PySem.F.entry_type_call ?_⟩))
  rw [Around.under_plain (weight_type_call_type "set" [.ref l] []) rfl]
  have k3 := PySem.F.called_set.notType
  have k4 := PySem.F.called_set.canCreate
  have k5 := PySem.F.typeCall_set_1 (.ref l)
  repeat (any_goals (first | assumption | wp_step))
  refine codeAny_mono (code_set_new_1 (.ref l) (E := E) (Q₁ := fun obj s1 => ∃ led : Bool, obj = .ref s.heap.objs.size ∧ s1 = { s with heap := s.heap.push (setOb led) }) fun led => ⟨led, rfl, rfl⟩) fun r s1 hr => ?_
  match r, hr with
  | .error e, hr => exact hr
  | .ok .next, hr => exact hr.elim
  | .ok .brk, hr => exact hr.elim
  | .ok .cont, hr => exact hr.elim
  | .ok (.ret obj), hr =>
    obtain ⟨led, rfl, rfl⟩ := hr
    have gS : (s.heap.push (setOb led)).get? s.heap.objs.size = some (setOb led) := Heap.get?_push_size _ rfl
    have tS : Shared.TypeIs { s with heap := s.heap.push (setOb led) } (.ref s.heap.objs.size) "set" := ⟨_, gS, rfl⟩
    have k6 := PySem.F.called_set.init.lookup
    have k7 := PySem.F.called_set.init.bind (.ref s.heap.objs.size)
    repeat (any_goals (first | assumption | wp_step))
    refine codeAny_mono (codeAny_call_builtin (R := wants (fun r s2 => r = .none ∧ ∃ h' tk, s2 = { s with heap := h', toks := tk } ∧ h'.SetOf (PySem.strKind P w) s.heap.objs.size (fun y => decide (y ∈ xs)) xs.length ∧ (∀ b o, s.heap.get? b = some o → h'.get? b = some o)) E)
      PySem.F.called_set.init.plain PySem.F.entry_set_init (check_set_init_1 tS ?_)) fun r2 s2 hr2 => ?_
    · obtain ⟨⟨oc, od, oa, os⟩, lo, lc, nl, ld⟩ := hl
      simp only at lc ld
      subst lc ld
      have lt : l < s.heap.objs.size := Heap.lt_size lo
      have lo1 : (s.heap.push (setOb led)).get? l = some { cls := .type "list", dict := od, data := .seq its.toArray nl, slots := os } := Heap.get?_push_of_some _ lo
      have k8 := PySem.F.sub_list_set
      have k9 := PySem.F.sub_list_frozenset
      have k10 : (Value.type "list" == Value.type "dict") = false := by decide
      have l1 : (s.heap.push (setOb led)).IsList l its.toArray := ⟨_, lo1, rfl, nl, rfl⟩
      unfold Builtin.«set.__init__» noKeywords Builtin.Frozenset.updateFrom
      generalize hP : pyIter = Pi
      wp_walk
      subst hP
      refine wpAny_pyIter_list l1 (wpAny_bind (wpAny_runValue ?_))
      have sz : (s.heap.push (setOb led)).objs.size = s.heap.objs.size + 1 := Heap.size_push ..
      have ni : l ≠ (s.heap.push (setOb led)).objs.size := by rw [sz]; exact Nat.ne_of_lt (Nat.lt_succ_of_lt lt)
      have h3 : A.in1.in1.in1.handled = none := by simp [hh]
      have nf : s.heap.objs.size ∉ [(s.heap.push (setOb led)).objs.size, l] := fun z => by
        rcases List.mem_cons.mp z with z | z
        · rw [sz] at z
          exact Nat.ne_of_lt (Nat.lt_succ_self _) z
        · exact Nat.ne_of_gt lt (List.mem_singleton.mp z)
      have el : xs.length = its.toArray.size := by rw [← StrsAre.len_eq hi, List.size_toArray]
      refine strs_loop ((Walks.list h3 _ l ni its.toArray).toS) nf el nd (by rw [← el]; exact few) (fun i v hv => ?_) its.toArray.size 0 _ (Nat.zero_add _) ⟨⟨_, Heap.get?_push_size _ rfl, rfl, rfl⟩, l1.push _⟩ ?_ fun s' hm so => ?_
      · obtain ⟨t, e⟩ := SS.strs_at hi i v (by rw [← Array.getElem?_toList] at hv; simpa using hv)
        have li : i < xs.length := by
          have := (Array.getElem?_eq_some_iff.mp hv).1
          omega
        exact ⟨xs.getD i Str.empty, t, by rw [List.getD_eq_getElem?_getD, List.getElem?_eq_getElem li]; rfl, e⟩
      · have g2 := Heap.get?_push_of_some { cls := .type "list_iterator", data := .fields #[.ref l, .int 0 0] } gS
        exact SetOf_congr ((setObjOf_fresh (knd := PySem.strKind P w) led).setOf g2 (by unfold scanBound; omega)) (fun _ => rfl) rfl
      · obtain ⟨h', g', d', tk', os'⟩ := s'
        obtain rfl : g' = s.gens := hm.gens
        obtain rfl : d' = s.drawn := hm.drawn
        obtain rfl : os' = s.os := hm.os
        refine wpAny_pure (show wpAny _ _ (ret Value.none) _ _ _ from wpAny_pure ⟨rfl, h', tk', rfl, by rw [el]; exact so, fun b o z => ?_⟩)
        have bl := Heap.lt_size z
        refine hm.heap b o (fun q => ?_) (Heap.get?_push_of_some _ (Heap.get?_push_of_some _ z))
        rcases List.mem_cons.mp q with q | q
        · exact Nat.ne_of_lt bl q
        · have := List.mem_singleton.mp q
          rw [sz] at this
          exact Nat.ne_of_lt (Nat.lt_succ_of_lt bl) this
    · match r2, hr2 with
      | .error e, hr2 => exact hr2
      | .ok .next, hr2 => exact hr2.elim
      | .ok .brk, hr2 => exact hr2.elim
      | .ok .cont, hr2 => exact hr2.elim
      | .ok (.ret r), hr2 =>
        obtain ⟨rfl, h', tk, rfl, so, kp⟩ := hr2
        repeat (any_goals (first | assumption | wp_step))
        exact h _ _ so kp
end
section
variable {X : Cx}
def tLenStrs (K : PySem.W.Frag) (ta : TE) : TE := fun σ H Q => ta σ H fun x H1 => ∃ (l : Addr) (xs : List Str), x = .ref l ∧ H1 l = some (.lst (xs.map V.str)) ∧ xs.Nodup ∧ xs.length ≤ 100 ∧ Q (.int xs.length) H1
theorem pe_lenStrs {a : Expr} {ta : TE} {p p2 q pos : Pos} (hc : X.calm = true) (hg : Gl X "len") (hm : X.mg "len" = none) (hg2 : Gl X "set") (hm2 : X.mg "set" = none) (ha : PE X a ta)
    (na : starEach [a] X.env = (false, eval a X.env) :: starEach [] X.env := by rfl) : PE X (.Call (.Name "len" p) [.Call (.Name "set" p2) [a] [] q] [] pos) (tLenStrs X.K ta) := by
  refine ⟨fun pins s σ H Q I h => Call_ (ld_blt I hg hm PySem.boot_len (PyProof.Rows.callWith_builtin1 (PyProof.Rows.args_cons (Call_ (ld_blt I hg2 hm2 PyProof.Rows.boot_set ?_)) rfl) rfl rfl))⟩
  refine PyProof.Rows.callWith_type1 (PyProof.Rows.args_cons (thn (ha.run pins s σ H _ I h) fun v s1 ⟨x, H1, I1, r1, q1⟩ => PyProof.Rows.args_nil ?_) na) na rfl
  obtain ⟨l, xs, rfl, e, nd, few, q1⟩ := q1
  cases r1
  obtain ⟨its, r, pl, _⟩ := I1.list (.inl (.inl e))
  refine set_strs (I1.ok.hd hc) pl.isList (by simpa using strsAre_of r) nd (by unfold scanBound; omega) fun h' tk so kp => PyProof.Rows.args_nil ?_
  obtain ⟨o, es, ep, t, ho, ex, hd, _, _, _, hf, hn⟩ := so
  exact call_len_set ho ex hd hf (by rw [hn] <;> omega) ⟨.int xs.length, H1, (I1.kept fun b o z => kp b o z).tok _, ⟨_, by rw [hn]⟩, q1⟩
end
end Lk
set_option maxRecDepth 100000
set_option maxHeartbeats 4000000
namespace Lk
open PySem PySem.Spec PyProof.Rows L2

/-! ### who stands ahead of whom, by places -/
theorem ix_at {row : List Str} {x : Str} (hx : x ∈ row) : row[row.idxOf x]? = some x := by
  have hl : row.idxOf x < row.length := List.idxOf_lt_length_iff.mpr hx
  rw [List.getElem?_eq_getElem hl, List.getElem_idxOf]
theorem ahead_ix {row : List Str} {x y : Str} (hd : row.Nodup) : Ahead row x y ↔ x ∈ row ∧ y ∈ row ∧ row.idxOf x < row.idxOf y := by
  constructor
  · intro k
    exact ⟨k.mem.1, k.mem.2, k.lt hd (ix_at k.mem.1) (ix_at k.mem.2)⟩
  · rintro ⟨hx, hy, h⟩
    refine ⟨row.take (row.idxOf y), row.drop (row.idxOf y + 1), split_at (ix_at hy), ?_⟩
    exact List.mem_iff_getElem?.mpr ⟨row.idxOf x, by rw [List.getElem?_take, if_pos h]; exact ix_at hx⟩
theorem mem_take_ix {row : List Str} {x : Str} {i : Nat} (hd : row.Nodup) : x ∈ row.take i ↔ x ∈ row ∧ row.idxOf x < i := by
  constructor
  · intro h
    obtain ⟨j, hj⟩ := List.mem_iff_getElem?.mp h
    rw [List.getElem?_take] at hj
    split at hj
    · rename_i c
      rw [idx_at hd hj]
      exact ⟨List.mem_of_getElem? hj, c⟩
    · cases hj
  · rintro ⟨h1, h2⟩
    exact List.mem_iff_getElem?.mpr ⟨row.idxOf x, by rw [List.getElem?_take, if_pos h2]; exact ix_at h1⟩
theorem rem_ix {row : List Str} {x u v : Str} (hd : row.Nodup) (hu : u ∈ row) (hv : v ∈ row) (nu : u ≠ x) (nv : v ≠ x) : (rem row x).idxOf u < (rem row x).idxOf v ↔ row.idxOf u < row.idxOf v := by
  have mu := mem_rem.mpr ⟨hu, nu⟩
  have mv := mem_rem.mpr ⟨hv, nv⟩
  constructor
  · intro h
    exact ((ahead_ix hd).mp (((ahead_ix (rem_nodup hd)).mpr ⟨mu, mv, h⟩).of_rem hd)).2.2
  · intro h
    exact ((ahead_ix (rem_nodup hd)).mp (((ahead_ix hd).mpr ⟨hu, hv, h⟩).rem nu nv)).2.2

/-! ### by which word one bars another -/
def BarsBy (ps : List (Str × Str)) (row : List Str) (a b w : Str) : Prop :=
  (w = "behind" ∧ (∀ h ∈ row, row.idxOf h < row.idxOf a → frd ps a h = false) ∧ row.idxOf a < row.idxOf b) ∨
  (w = "between" ∧ (∃ h ∈ row, frd ps a h = true ∧ row.idxOf h < row.idxOf a ∧ (∀ g ∈ row, row.idxOf g < row.idxOf a → frd ps a g = true → row.idxOf g ≤ row.idxOf h) ∧ row.idxOf h < row.idxOf b) ∧ row.idxOf b < row.idxOf a) ∨
  (w = "friend" ∧ row.idxOf a < row.idxOf b ∧ frd ps a b = true)
def Bars (ps : List (Str × Str)) (row : List Str) (a b : Str) : Prop := ∃ w, BarsBy ps row a b w
/-- who can have come last, by places -/
theorem loose_ix {ps : List (Str × Str)} {row : List Str} {x : Str} (hd : row.Nodup) : LooseIn ps row x ↔ x ∈ row ∧ (∀ y ∈ row, row.idxOf x < row.idxOf y → frd ps x y = false) ∧ ((∃ f ∈ row, row.idxOf f + 1 = row.idxOf x ∧ frd ps x f = true) ∨ ((∀ y ∈ row, row.idxOf y < row.idxOf x → frd ps x y = false) ∧ ∀ y ∈ row, ¬ row.idxOf x < row.idxOf y)) := by
  have parts : ∀ {a b : List Str}, row = a ++ x :: b → row.idxOf x = a.length ∧ (∀ y, y ∈ a ↔ y ∈ row ∧ row.idxOf y < row.idxOf x) ∧ (∀ y, y ∈ b ↔ y ∈ row ∧ row.idxOf x < row.idxOf y) := by
    intro a b e
    have ex : row.idxOf x = a.length := idx_at hd (by rw [e]; simp)
    have ta : row.take (row.idxOf x) = a := by rw [ex, e]; simp
    refine ⟨ex, fun y => ?_, fun y => ?_⟩
    · rw [← ta, mem_take_ix hd]
    · constructor
      · intro hy
        obtain ⟨j, hj⟩ := List.mem_iff_getElem?.mp hy
        have g : row[a.length + 1 + j]? = some y := by
          rw [e, List.getElem?_append_right (by omega), show a.length + 1 + j - a.length = j + 1 by omega, List.getElem?_cons_succ]
          exact hj
        refine ⟨List.mem_of_getElem? g, ?_⟩
        rw [idx_at hd g]
        omega
      · rintro ⟨hy, h⟩
        have hm : y ∈ a ++ x :: b := e ▸ hy
        rcases List.mem_append.mp hm with m | m
        · have := ((mem_take_ix hd).mp (ta.symm ▸ m : y ∈ row.take (row.idxOf x))).2
          omega
        · rcases List.mem_cons.mp m with z | z
          · subst z
            omega
          · exact z
  constructor
  · rintro ⟨a, b, e, q1, q2⟩
    obtain ⟨ex, ha, hb⟩ := parts e
    refine ⟨by rw [e]; simp, fun y hy h => q1 y ((hb y).mpr ⟨hy, h⟩), ?_⟩
    rcases q2 with ⟨a', f, ea, hf⟩ | ⟨h1, h2⟩
    · refine .inl ⟨f, ((ha f).mp (by rw [ea]; simp)).1, ?_, hf⟩
      have : row.idxOf f = a'.length := idx_at hd (by rw [e, ea]; simp)
      rw [this, ex, ea]
      simp
    · refine .inr ⟨fun y hy h => h1 y ((ha y).mpr ⟨hy, h⟩), fun y hy h => ?_⟩
      have := (hb y).mpr ⟨hy, h⟩
      rw [h2] at this
      cases this
  · rintro ⟨hx, q1, q2⟩
    obtain ⟨a, b, e⟩ := List.append_of_mem hx
    obtain ⟨ex, ha, hb⟩ := parts e
    refine ⟨a, b, e, fun y hy => q1 y ((hb y).mp hy).1 ((hb y).mp hy).2, ?_⟩
    rcases q2 with ⟨f, hf, h1, h2⟩ | ⟨h1, h2⟩
    · refine .inl ?_
      have hfa : f ∈ a := (ha f).mpr ⟨hf, by omega⟩
      have hne : a ≠ [] := fun z => by rw [z] at hfa; cases hfa
      refine ⟨a.dropLast, a.getLast hne, (List.dropLast_concat_getLast hne).symm, ?_⟩
      have ge : row[a.length - 1]? = some (a.getLast hne) := by
        have lp : 0 < a.length := List.length_pos_iff.mpr hne
        rw [e, List.getElem?_append_left (by omega), ← List.getLast?_eq_getElem?, List.getLast?_eq_some_getLast hne]
      have gf := ix_at hf
      rw [show row.idxOf f = a.length - 1 by omega, ge] at gf
      rw [Option.some.inj gf]
      exact h2
    · refine .inr ⟨fun y hy => h1 y ((ha y).mp hy).1 ((ha y).mp hy).2, ?_⟩
      cases b with
      | nil => rfl
      | cons y b => exact absurd ((hb y).mp List.mem_cons_self).2 (h2 y ((hb y).mp List.mem_cons_self).1)
theorem loose_bars {ps : List (Str × Str)} {row : List Str} {x : Str} (hd : row.Nodup) (hx : x ∈ row) : LooseIn ps row x ↔ ∀ b ∈ row, ¬ Bars ps row x b := by
  rw [loose_ix hd]
  constructor
  · rintro ⟨_, q1, q2⟩ b hb ⟨w, h⟩
    rcases h with ⟨_, h1, h2⟩ | ⟨_, ⟨h, h1, h2, h3, h4, h5⟩, h6⟩ | ⟨_, h1, h2⟩
    · rcases q2 with ⟨f, hf, e, hf2⟩ | ⟨_, h3⟩
      · rw [h1 f hf (by omega)] at hf2
        cases hf2
      · exact h3 b hb h2
    · rcases q2 with ⟨f, hf, e, hf2⟩ | ⟨h7, _⟩
      · have := h4 f hf (by omega) hf2
        omega
      · rw [h7 h h1 h3] at h2
        cases h2
    · rw [q1 b hb h1] at h2
      cases h2
  · intro q
    have fr : ∀ y ∈ row, row.idxOf x < row.idxOf y → frd ps x y = false := fun y hy h => by
      refine Bool.eq_false_iff.mpr fun c => ?_
      exact q y hy ⟨"friend", .inr (.inr ⟨rfl, h, c⟩)⟩
    refine ⟨hx, fr, ?_⟩
    by_cases c : ∃ h ∈ row, frd ps x h = true ∧ row.idxOf h < row.idxOf x
    · refine .inl ?_
      -- the last one of these
      have : ∀ n, ∀ h ∈ row, frd ps x h = true → row.idxOf h < row.idxOf x → row.idxOf x - row.idxOf h ≤ n → ∃ f ∈ row, row.idxOf f + 1 = row.idxOf x ∧ frd ps x f = true := by
        intro n
        induction n with
        | zero => intro h _ _ h3 h4; omega
        | succ n ih =>
          intro h h1 h2 h3 h4
          by_cases c2 : ∃ g ∈ row, row.idxOf g < row.idxOf x ∧ frd ps x g = true ∧ row.idxOf h < row.idxOf g
          · obtain ⟨g, g1, g2, g3, g4⟩ := c2
            exact ih g g1 g3 g2 (by omega)
          · refine ⟨h, h1, ?_, h2⟩
            refine Classical.byContradiction fun c3 => ?_
            have hl : row.idxOf h + 1 < row.length := Nat.lt_trans (by omega : row.idxOf h + 1 < row.idxOf x) (List.idxOf_lt_length_iff.mpr hx)
            have gz := List.getElem?_eq_getElem hl
            have iz := idx_at hd gz
            refine q _ (List.mem_of_getElem? gz) ⟨"between", .inr (.inl ⟨rfl, ⟨h, h1, h2, h3, fun g g1 g2 g3 => ?_, by omega⟩, by omega⟩)⟩
            exact Nat.not_lt.mp fun g4 => c2 ⟨g, g1, g2, g3, g4⟩
      obtain ⟨h, h1, h2, h3⟩ := c
      exact this _ h h1 h2 h3 (Nat.le_refl _)
    · have no : ∀ y ∈ row, row.idxOf y < row.idxOf x → frd ps x y = false := fun y hy h => Bool.eq_false_iff.mpr fun z => c ⟨y, hy, z, h⟩
      exact .inr ⟨no, fun y hy h => q y hy ⟨"behind", .inl ⟨rfl, no, h⟩⟩⟩
/-- of the others it changes nothing whether one who can have come last is there -/
theorem barsby_rem {ps : List (Str × Str)} {row : List Str} {x u v w : Str} (hd : row.Nodup) (lx : LooseIn ps row x) (hu : u ∈ row) (hv : v ∈ row) (nu : u ≠ x) (nv : v ≠ x) : BarsBy ps (rem row x) u v w ↔ BarsBy ps row u v w := by
  obtain ⟨hx, q1, _⟩ := (loose_ix hd).mp lx
  have nf : row.idxOf x < row.idxOf u → frd ps u x = false := fun h => by rw [frd_comm]; exact q1 u hu h
  have ii : ∀ {y z : Str}, y ∈ row → z ∈ row → y ≠ x → z ≠ x → ((rem row x).idxOf y < (rem row x).idxOf z ↔ row.idxOf y < row.idxOf z) := fun h1 h2 h3 h4 => rem_ix hd h1 h2 h3 h4
  unfold BarsBy
  refine or_congr (and_congr Iff.rfl (and_congr ?_ (ii hu hv nu nv))) (or_congr (and_congr Iff.rfl (and_congr ?_ (ii hv hu nv nu))) (and_congr Iff.rfl (and_congr (ii hu hv nu nv) Iff.rfl)))
  · constructor
    · intro h y hy hl
      by_cases c : y = x
      · rw [c] at hl ⊢
        exact nf hl
      · exact h y (mem_rem.mpr ⟨hy, c⟩) ((ii hy hu c nu).mpr hl)
    · intro h y hy hl
      have m := mem_rem.mp hy
      exact h y m.1 ((ii m.1 hu m.2 nu).mp hl)
  · constructor
    · rintro ⟨h, h1, h2, h3, h4, h5⟩
      have m := mem_rem.mp h1
      refine ⟨h, m.1, h2, (ii m.1 hu m.2 nu).mp h3, fun g g1 g2 g3 => ?_, (ii m.1 hv m.2 nv).mp h5⟩
      by_cases c : g = x
      · rw [c] at g2 g3
        rw [nf g2] at g3
        cases g3
      · have := h4 g (mem_rem.mpr ⟨g1, c⟩) ((ii g1 hu c nu).mpr g2) g3
        exact Nat.not_lt.mp fun z => absurd ((ii m.1 g1 m.2 c).mpr z) (by omega)
    · rintro ⟨h, h1, h2, h3, h4, h5⟩
      have nh : h ≠ x := fun z => by
        rw [z] at h2 h3
        rw [nf h3] at h2
        cases h2
      refine ⟨h, mem_rem.mpr ⟨h1, nh⟩, h2, (ii h1 hu nh nu).mpr h3, fun g g1 g2 g3 => ?_, (ii h1 hv nh nv).mpr h5⟩
      have m := mem_rem.mp g1
      have := h4 g m.1 ((ii m.1 hu m.2 nu).mp g2) g3
      exact Nat.not_lt.mp fun z => absurd ((ii h1 m.1 nh m.2).mp z) (by omega)
theorem idx_snoc {o : List Str} {x u : Str} (hu : u ∈ o) : (o ++ [x]).idxOf u = o.idxOf u := by
  rw [List.idxOf_append, if_pos hu]
theorem idx_snoc_last {o : List Str} {x : Str} (hx : x ∉ o) : (o ++ [x]).idxOf x = o.length := by
  rw [List.idxOf_append, if_neg hx]
  simp
/-- the orders are just the lists in which each stands ahead of all that it bars -/
theorem lin_iff {ps : List (Str × Str)} (irr : Irr ps) : ∀ (n : Nat) (order row : List Str), order.length = n → order.Nodup → order.Perm row → (standOf ps order = row ↔ ∀ u ∈ row, ∀ v ∈ row, Bars ps row u v → order.idxOf u < order.idxOf v)
  | 0, order, row, hn, hd, pm => by
    have e : order = [] := List.length_eq_zero_iff.mp hn
    subst e
    have e2 : row = [] := List.nil_perm.mp pm
    subst e2
    exact ⟨(fun _ u hu => nomatch hu), fun _ => rfl⟩
  | n + 1, order, row, hn, hd, pm => by
    rcases List.eq_nil_or_concat order with z | ⟨o, x, z⟩
    · rw [z] at hn
      cases hn
    rw [List.concat_eq_append] at z
    subst z
    have hdr : row.Nodup := pm.nodup_iff.mp hd
    have hd' : (x :: o).Nodup := ((List.perm_append_singleton x o).nodup_iff).mp hd
    obtain ⟨nx, hdo⟩ := List.nodup_cons.mp hd'
    have hx : x ∈ row := pm.mem_iff.mp (by simp)
    have on : o.length = n := by
      rw [List.length_append] at hn
      have : o.length + 1 = n + 1 := hn
      omega
    have pr : o.Perm (rem row x) := by
      have p1 : (x :: o).Perm row := (List.perm_append_singleton x o).symm.trans pm
      have p2 : (rem (x :: o) x).Perm (rem row x) := p1.filter _
      have e1 : rem (x :: o) x = o := rem_split (a := []) hd'
      rw [e1] at p2
      exact p2
    have mo : ∀ u ∈ row, u ≠ x → u ∈ o := fun u hu ne => pr.mem_iff.mpr (mem_rem.mpr ⟨hu, ne⟩)
    have ih := lin_iff irr n o (rem row x) on hdo pr
    rw [standOf_app]
    constructor
    · intro e u hu v hv bv
      have hs : (x :: standOf ps o).Nodup := ((stand_perm ps o).cons x).nodup_iff.mpr hd'
      have er := come_rem (ps := ps) hs
      have lx := come_loose ps (standOf ps o) x
      rw [e] at er lx
      have nu : u ≠ x := fun z => by
        subst z
        exact (loose_bars hdr hx).mp lx v hv bv
      have uo := mo u hu nu
      rw [idx_snoc uo]
      by_cases cv : v = x
      · subst cv
        rw [idx_snoc_last nx]
        exact List.idxOf_lt_length_iff.mpr uo
      · rw [idx_snoc (mo v hv cv)]
        obtain ⟨w, bw⟩ := bv
        exact ih.mp er.symm u (mem_rem.mpr ⟨hu, nu⟩) v (mem_rem.mpr ⟨hv, cv⟩) ⟨w, (barsby_rem hdr lx hu hv nu cv).mpr bw⟩
    · intro q
      have lx : LooseIn ps row x := (loose_bars hdr hx).mpr fun b hb bb => by
        have h := q x hx b hb bb
        rw [idx_snoc_last nx] at h
        have : (o ++ [x]).idxOf b < (o ++ [x]).length := List.idxOf_lt_length_iff.mpr (pm.mem_iff.mpr hb)
        rw [List.length_append] at this
        have : (o ++ [x]).idxOf b < o.length + 1 := this
        omega
      have es : standOf ps o = rem row x := ih.mpr fun u hu v hv ⟨w, bw⟩ => by
        have mu := mem_rem.mp hu
        have mv := mem_rem.mp hv
        have h := q u mu.1 v mv.1 ⟨w, (barsby_rem hdr lx mu.1 mv.1 mu.2 mv.2).mp bw⟩
        rw [idx_snoc (mo u mu.1 mu.2), idx_snoc (mo v mv.1 mv.2)] at h
        exact h
      rw [es]
      exact loose_come irr hdr lx
end Lk
set_option maxRecDepth 100000
set_option maxHeartbeats 4000000
namespace Lk
open PySem PySem.Spec PyProof.Rows L2

/-! ### rows, be they lists or tuples -/
theorem RowAt.sq {K : PySem.W.Frag} {H : Hp} {a : Addr} {row : List Str} (h : RowAt H a row) : SqL K H a (row.map V.str) ∨ SqT K H a (row.map V.str) := h.elim (fun e => .inr e.sq) (fun e => .inl (.inl (.inl e)))
theorem RowAt.at_ {H H' : Hp} {a : Addr} {row : List Str} (h : RowAt H a row) (e : H' a = H a) : RowAt H' a row := by
  rcases h with ⟨o, h1, h2⟩ | h
  · exact .inl ⟨o, h1, e.trans h2⟩
  · exact .inr (e.trans h)
theorem RowAt.some_ {H : Hp} {a : Addr} {row : List Str} (h : RowAt H a row) : ∃ o, H a = some o := h.elim (fun ⟨_, _, e⟩ => ⟨_, e⟩) (fun e => ⟨_, e⟩)
theorem same_eq {H H' : Hp} {a : Addr} {o : HO} (s : Same H H') (h : H a = some o) : H' a = H a := (s _ _ h).trans h.symm
theorem RowAt.kept {H H' : Hp} {a : Addr} {row : List Str} (h : RowAt H a row) (s : Same H H') : H' a = H a := by
  obtain ⟨o, e⟩ := h.some_
  exact same_eq s e
theorem RowAt.oth {H H' : Hp} {a b : Addr} {row : List Str} (h : RowAt H a row) (s : Oth b H H') (hb : IsBox H b) : RowAt H' a row := h.elim (fun e => .inl (e.oth s hb)) (fun e => .inr (s _ _ (hb.ne_strs e) e))
section
variable {X : Cx}
/-- a cut of a row -/
def rSlR : V → Option Int → Option Int → Hp → VK → Prop := fun x lo hi H Q => ∃ a row, x = .ref a ∧ RowAt H a row ∧ ∀ p H', Same H H' → RowAt H' p (cutL row lo hi) → Q (.ref p) H'
theorem sl_row : SlR X rSlR := by
  intro pins s σ H x v vl vu lo hi sl Q I rx hs pl pu h
  obtain ⟨a, row, rfl, hrow, q⟩ := h
  rcases hrow with e | e
  · refine sl_tupM pins s σ H _ v vl vu lo hi sl Q I rx hs pl pu ⟨a, _, rfl, e, fun t H' s' t' => q t H' s' (.inl ?_)⟩
    rw [cutV_map] at t'
    exact t'
  · refine sl_list pins s σ H _ v vl vu lo hi sl Q I rx hs pl pu ⟨a, _, rfl, .inl (.inl e), fun p hp => q p _ (same_upd hp) (.inr ?_)⟩
    rw [cutV_map]
    exact upd_same
/-- one of a row -/
def rIxR : R2 := fun x y H Q => ∃ (a : Addr) (row : List Str) (i : Int) (z : Str), x = .ref a ∧ y = .int i ∧ RowAt H a row ∧ atI (row.map V.str) i = some (.str z) ∧ Q (.str z) H
theorem ix_row : IxR X rIxR := by
  intro value slice pins s σ H x y v u Q I rx ry h hs
  obtain ⟨a, row, i, z, rfl, rfl, hrow, hz, q⟩ := h
  rcases hrow with e | e
  · exact ix_tup value slice pins s σ H _ _ v u Q I rx ry ⟨a, _, i, _, rfl, rfl, e.sq, hz, q⟩ hs
  · exact ix_list value slice pins s σ H _ _ v u Q I rx ry ⟨a, _, i, _, rfl, rfl, .inl (.inl e), hz, q⟩ hs
/-- for one in a row -/
def iRow (tl : TE) : TI := fun σ H R => tl σ H fun x H1 => ∃ a row, x = .ref a ∧ RowAt H1 a row ∧ ∀ (J : It) (G : Hp → Prop), Walk J (row.map V.str).length G (YAt (row.map V.str)) → (∀ H', H' a = H1 a → G H') → R J H1
theorem pi_row {tg l : Expr} {tl : TE} (hl : PE X l tl) : PI X tg l (iRow tl) := by
  constructor
  intro pins s σ H R I h
  refine thn (hl.run pins s σ H _ I h) ?_
  rintro v s1 ⟨x, H1, I1, r1, a, row, rfl, hrow, q⟩
  cases r1
  rcases hrow with e | e
  · have sq : SqT X.K H1 a (row.map V.str) := e.sq
    obtain ⟨its, rv, p, hz⟩ := I1.tuple sq
    refine wpAny_pyIter_tuple (show s1.heap.IsTuple a its.toArray from p)
      ⟨s1.heap.objs.size, [s1.heap.objs.size], _, _, H1, rfl, I1.kept (t' := s1.toks) (fun _ _ g => Heap.get?_push_of_some _ g), turn_tuple a _, ⟨_, Heap.get?_push_size _ rfl, rfl, rfl⟩, ?_, q _ _ walk_tup ?_⟩
    · intro c hc
      rw [List.mem_singleton.mp hc]
      exact I1.fpOk (Nat.le_refl _) (I1.hok.fresh (Nat.le_refl _))
    · intro H' eq
      obtain ⟨o, h1, h2⟩ := e
      exact TupAt.sq (show TupAt H' a (row.map V.str) from ⟨o, h1, eq.trans h2⟩)
  · have sq : SqL X.K H1 a (row.map V.str) := .inl (.inl e)
    obtain ⟨its, rv, p, hz⟩ := I1.list sq
    refine wpAny_pyIter_list p.isList
      ⟨s1.heap.objs.size, [s1.heap.objs.size], _, _, H1, rfl, I1.kept (t' := s1.toks) (fun _ _ g => Heap.get?_push_of_some _ g), turn_list a _, ⟨_, Heap.get?_push_size _ rfl, rfl, rfl⟩, ?_, q _ _ walk_list ?_⟩
    · intro c hc
      rw [List.mem_singleton.mp hc]
      exact I1.fpOk (Nat.le_refl _) (I1.hok.fresh (Nat.le_refl _))
    · exact fun H' eq => .inl (.inl (eq.trans e))
/-- tuple(row), list(row) -/
theorem call_tupRow : CallR X (.type "tuple") (fun xs H Q => ∃ a row, xs = [.ref a] ∧ RowAt H a row ∧ ∀ p H', Same H H' → TupAt H' p (row.map V.str) → Q (.ref p) H') := by
  intro pins s σ H xs us Q I r h
  obtain ⟨a, row, rfl, hrow, q⟩ := h
  rcases hrow with e | e
  · exact call_tupleF pins s σ H _ us Q I r ⟨a, _, rfl, .inr ⟨e.sq, q a H (Same.refl H) e⟩⟩
  · exact call_tupleF pins s σ H _ us Q I r ⟨a, _, rfl, .inl ⟨.inl (.inl e), fun l H' s' n' t' => q l H' s' t'⟩⟩
theorem call_listRow : CallR X (.type "list") (fun xs H Q => ∃ a row, xs = [.ref a] ∧ RowAt H a row ∧ ∀ p, H p = none → Q (.ref p) (upd H p (.lst (row.map V.str)))) := by
  intro pins s σ H xs us Q I r h
  obtain ⟨a, row, rfl, hrow, q⟩ := h
  exact call_list_of pins s σ H _ us Q I r ⟨a, _, rfl, hrow.sq, q⟩
end

/-! ### list comprehensions that leave some out -/
theorem lc_filt {J : It} {G : Hp → Prop} {Y : Nat → Hp → V → Hp → Prop} {xs : List Str} (w : Walk J (xs.map V.str).length G Y) {g : TG} {tt : TT} {te : TE} {vs : List Nat} {σ : L2.St} {H1 : Hp} {D : Addr} {Qd : Hp → Prop} (p : Str → Bool) (hD : H1 D = none) (hG : ∀ H', Same H1 H' → G H')
    (hs : ∀ (i : Nat) (x : Str) (v : V) (H H' : Hp), xs[i]? = some x → Same H1 H → Y i H v H' → Same H H' ∧ g v (wipe σ vs) H' fun σ2 H2 => wipe σ2 vs = wipe σ vs ∧ tt σ2 H2 fun b H3 => b = p x ∧ Same H H3 ∧ (b = true → te σ2 H3 fun y H4 => y = .str x ∧ Same H3 H4))
    (hd : ∀ H, Same H1 H → H D = some (.lst ((xs.filter p).map V.str)) → Qd H) (hn : xs.length ≤ 1000)
    (mono : ∀ (v : V) (H : Hp) (A B : L2.St → Hp → Prop), (∀ σ2 H2, A σ2 H2 → B σ2 H2) → g v (wipe σ vs) H A → g v (wipe σ vs) H B)
    (monoT : ∀ (σ2 : L2.St) (H : Hp) (A B : Bool → Hp → Prop), (∀ b H2, A b H2 → B b H2) → tt σ2 H A → tt σ2 H B)
    (monoE : ∀ (σ2 : L2.St) (H : Hp) (A B : V → Hp → Prop), (∀ b H2, A b H2 → B b H2) → te σ2 H A → te σ2 H B) :
    ∃ W : Nat → Nat → Hp → Prop, (∃ m, W 0 m (upd H1 D (.lst []))) ∧ ∀ i m H, W i m H →
      (J.stop i H ∧ Qd H) ∨ (J.go i H ∧ ∃ Nx : Hp → Prop, (∀ H', Nx H' → ∃ m', m' < m ∧ W (i + 1) m' H') ∧ ∀ x H', J.yld i H x H' → g x (wipe σ vs) H' fun σ2 H2 => wipe σ2 vs = wipe σ vs ∧ tt σ2 H2 fun b H3 =>
        if b = true then te σ2 H3 fun y H4 => ∃ acc, H4 D = some (.lst acc) ∧ acc.length < sizeLine ∧ Nx (upd H4 D (.lst (acc ++ [y]))) else Nx H3) := by
  refine lc_it w (fun i H' => Same H1 H' ∧ H' D = some (.lst (((xs.take i).filter p).map V.str))) ⟨same_upd hD, upd_same⟩ (fun i H' _ h => hG H' h.1) ?_ ?_
  · rintro i v H H' hi ⟨s1, d1⟩ y
    rw [List.length_map] at hi
    obtain ⟨x, hx⟩ : ∃ x, xs[i]? = some x := ⟨xs[i], List.getElem?_eq_getElem hi⟩
    obtain ⟨s2, h⟩ := hs i x v H H' hx s1 y
    have ft : (xs.take (i + 1)).filter p = (xs.take i).filter p ++ if p x = true then [x] else [] := by
      rw [List.take_add_one, hx, List.filter_append]
      show _ ++ List.filter p [x] = _
      rw [List.filter_cons, List.filter_nil]
    refine mono v H' _ _ (fun σ2 H2 a => ⟨a.1, monoT σ2 H2 _ _ (fun b H3 z => ?_) a.2⟩) h
    obtain ⟨eb, s3, ht⟩ := z
    subst eb
    refine ite2 (fun c => ?_) (fun c => ?_)
    · rw [if_pos c] at ft
      refine monoE σ2 H3 _ _ (fun y' H4 u => ?_) (ht c)
      obtain ⟨rfl, s4⟩ := u
      refine ⟨_, s4 _ _ (s3 _ _ d1), ?_, fun b o e => ?_, ?_⟩
      · rw [List.length_map]
        exact small1000 (Nat.le_trans (List.length_filter_le _ _) (by rw [List.length_take]; omega))
      · rw [upd_ne (ne_of_none e hD)]
        exact s4 _ _ (s3 _ _ (s1 _ _ e))
      · rw [upd_same, ft, List.map_append]
        rfl
    · rw [if_neg c, List.append_nil] at ft
      exact ⟨s1.trans s3, by rw [ft]; exact s3 _ _ d1⟩
  · rintro H ⟨s1, d1⟩
    rw [List.length_map, List.take_of_length_le (Nat.le_refl _)] at d1
    exact hd H s1 d1
end Lk
set_option maxRecDepth 100000
set_option maxHeartbeats 4000000
namespace Lk
open PySem PySem.Spec PyProof.Rows L2

/-! ### list comprehensions, by what comes of each one -/
section
variable {J : It} {n : Nat} {G : Hp → Prop} {Y : Nat → Hp → V → Hp → Prop} {g : TG} {tt : TT} {te : TE} {vs : List Nat} {σ : L2.St} {H1 : Hp} {D : Addr} {Qd : Hp → Prop}
/-- each one's value is f of its place -/
theorem lc_vals (w : Walk J n G Y) (f : Nat → V) (hn : n ≤ 1000) (hD : H1 D = none) (hG : ∀ H', Same H1 H' → G H')
    (hs : ∀ (i : Nat) (x : V) (H H' : Hp) (k : V → Hp → Prop), i < n → Same H1 H → Y i H x H' → (∀ H4, Same H H4 → k (f i) H4) → g x (wipe σ vs) H' fun σ2 H2 => wipe σ2 vs = wipe σ vs ∧ te σ2 H2 k)
    (hd : ∀ H, Same H1 H → H D = some (.lst ((List.range n).map f)) → Qd H) :
    ∃ W : Nat → Nat → Hp → Prop, (∃ m, W 0 m (upd H1 D (.lst []))) ∧ ∀ i m H, W i m H →
      (J.stop i H ∧ Qd H) ∨ (J.go i H ∧ ∃ Nx : Hp → Prop, (∀ H', Nx H' → ∃ m', m' < m ∧ W (i + 1) m' H') ∧ ∀ x H', J.yld i H x H' → g x (wipe σ vs) H' fun σ2 H2 => wipe σ2 vs = wipe σ vs ∧ tYes σ2 H2 fun b H3 =>
        if b = true then te σ2 H3 fun y H4 => ∃ acc, H4 D = some (.lst acc) ∧ acc.length < sizeLine ∧ Nx (upd H4 D (.lst (acc ++ [y]))) else Nx H3) := by
  refine lc_it w (fun i H' => Same H1 H' ∧ H' D = some (.lst ((List.range i).map f))) ⟨same_upd hD, upd_same⟩ (fun i H' _ h => hG H' h.1) ?_ (fun H h => hd H h.1 h.2)
  rintro i v H H' hi ⟨s1, d1⟩ y
  refine hs i v H H' _ hi s1 y fun H4 s4 => ?_
  refine ⟨_, s4 _ _ d1, ?_, fun b o e => ?_, ?_⟩
  · rw [List.length_map, List.length_range]
    exact small1000 (by omega)
  · rw [upd_ne (ne_of_none e hD)]
    exact s4 _ _ (s1 _ _ e)
  · rw [upd_same, List.range_succ, List.map_append]
    rfl
/-- texts -/
theorem lc_strs (w : Walk J n G Y) (xs : List Str) (hl : xs.length = n) (hn : n ≤ 1000) (hD : H1 D = none) (hG : ∀ H', Same H1 H' → G H')
    (hs : ∀ (i : Nat) (x : Str) (v : V) (H H' : Hp) (k : V → Hp → Prop), xs[i]? = some x → Same H1 H → Y i H v H' → (∀ H4, Same H H4 → k (.str x) H4) → g v (wipe σ vs) H' fun σ2 H2 => wipe σ2 vs = wipe σ vs ∧ te σ2 H2 k)
    (hd : ∀ H, Same H1 H → H D = some (.lst (xs.map V.str)) → Qd H) :
    ∃ W : Nat → Nat → Hp → Prop, (∃ m, W 0 m (upd H1 D (.lst []))) ∧ ∀ i m H, W i m H →
      (J.stop i H ∧ Qd H) ∨ (J.go i H ∧ ∃ Nx : Hp → Prop, (∀ H', Nx H' → ∃ m', m' < m ∧ W (i + 1) m' H') ∧ ∀ x H', J.yld i H x H' → g x (wipe σ vs) H' fun σ2 H2 => wipe σ2 vs = wipe σ vs ∧ tYes σ2 H2 fun b H3 =>
        if b = true then te σ2 H3 fun y H4 => ∃ acc, H4 D = some (.lst acc) ∧ acc.length < sizeLine ∧ Nx (upd H4 D (.lst (acc ++ [y]))) else Nx H3) := by
  refine lc_it w (fun i H' => Same H1 H' ∧ H' D = some (.lst ((xs.take i).map V.str))) ⟨same_upd hD, upd_same⟩ (fun i H' _ h => hG H' h.1) ?_ (fun H h => hd H h.1 ?_)
  · rintro i v H H' hi ⟨s1, d1⟩ y
    obtain ⟨x, hx⟩ : ∃ x, xs[i]? = some x := ⟨xs[i]'(by omega), List.getElem?_eq_getElem (by omega)⟩
    refine hs i x v H H' _ hx s1 y fun H4 s4 => ?_
    refine ⟨_, s4 _ _ d1, ?_, fun b o e => ?_, ?_⟩
    · rw [List.length_map, List.length_take]
      exact small1000 (by omega)
    · rw [upd_ne (ne_of_none e hD)]
      exact s4 _ _ (s1 _ _ e)
    · rw [upd_same, List.take_add_one, hx, List.map_append]
      rfl
  · have d1 := h.2
    rw [List.take_of_length_le (by omega)] at d1
    exact d1
/-- one of each -/
theorem lc_list {α : Type} (w : Walk J n G Y) (xs : List α) (f : α → V) (hl : xs.length = n) (hn : n ≤ 1000) (hD : H1 D = none) (hG : ∀ H', Same H1 H' → G H')
    (hs : ∀ (i : Nat) (x : α) (v : V) (H H' : Hp) (k : V → Hp → Prop), xs[i]? = some x → Same H1 H → Y i H v H' → (∀ H4, Same H H4 → k (f x) H4) → g v (wipe σ vs) H' fun σ2 H2 => wipe σ2 vs = wipe σ vs ∧ te σ2 H2 k)
    (hd : ∀ H, Same H1 H → H D = some (.lst (xs.map f)) → Qd H) :
    ∃ W : Nat → Nat → Hp → Prop, (∃ m, W 0 m (upd H1 D (.lst []))) ∧ ∀ i m H, W i m H →
      (J.stop i H ∧ Qd H) ∨ (J.go i H ∧ ∃ Nx : Hp → Prop, (∀ H', Nx H' → ∃ m', m' < m ∧ W (i + 1) m' H') ∧ ∀ x H', J.yld i H x H' → g x (wipe σ vs) H' fun σ2 H2 => wipe σ2 vs = wipe σ vs ∧ tYes σ2 H2 fun b H3 =>
        if b = true then te σ2 H3 fun y H4 => ∃ acc, H4 D = some (.lst acc) ∧ acc.length < sizeLine ∧ Nx (upd H4 D (.lst (acc ++ [y]))) else Nx H3) := by
  refine lc_it w (fun i H' => Same H1 H' ∧ H' D = some (.lst ((xs.take i).map f))) ⟨same_upd hD, upd_same⟩ (fun i H' _ h => hG H' h.1) ?_ (fun H h => hd H h.1 ?_)
  · rintro i v H H' hi ⟨s1, d1⟩ y
    obtain ⟨x, hx⟩ : ∃ x, xs[i]? = some x := ⟨xs[i]'(by omega), List.getElem?_eq_getElem (by omega)⟩
    refine hs i x v H H' _ hx s1 y fun H4 s4 => ?_
    refine ⟨_, s4 _ _ d1, ?_, fun b o e => ?_, ?_⟩
    · rw [List.length_map, List.length_take]
      exact small1000 (by omega)
    · rw [upd_ne (ne_of_none e hD)]
      exact s4 _ _ (s1 _ _ e)
    · rw [upd_same, List.take_add_one, hx, List.map_append]
      rfl
  · have d1 := h.2
    rw [List.take_of_length_le (by omega)] at d1
    exact d1
/-- those that p takes -/
theorem lc_take {xs : List Str} (w : Walk J (xs.map V.str).length G Y) (p : Str → Bool) (hn : xs.length ≤ 1000) (hD : H1 D = none) (hG : ∀ H', Same H1 H' → G H')
    (hs : ∀ (i : Nat) (x : Str) (v : V) (H H' : Hp) (k : V → Hp → Prop) (k0 : Hp → Prop), xs[i]? = some x → Same H1 H → Y i H v H' → (p x = true → ∀ H4, Same H H4 → k (.str x) H4) → (p x = false → ∀ H4, Same H H4 → k0 H4) →
      g v (wipe σ vs) H' fun σ2 H2 => wipe σ2 vs = wipe σ vs ∧ tt σ2 H2 fun b H3 => if b = true then te σ2 H3 k else k0 H3)
    (hd : ∀ H, Same H1 H → H D = some (.lst ((xs.filter p).map V.str)) → Qd H) :
    ∃ W : Nat → Nat → Hp → Prop, (∃ m, W 0 m (upd H1 D (.lst []))) ∧ ∀ i m H, W i m H →
      (J.stop i H ∧ Qd H) ∨ (J.go i H ∧ ∃ Nx : Hp → Prop, (∀ H', Nx H' → ∃ m', m' < m ∧ W (i + 1) m' H') ∧ ∀ x H', J.yld i H x H' → g x (wipe σ vs) H' fun σ2 H2 => wipe σ2 vs = wipe σ vs ∧ tt σ2 H2 fun b H3 =>
        if b = true then te σ2 H3 fun y H4 => ∃ acc, H4 D = some (.lst acc) ∧ acc.length < sizeLine ∧ Nx (upd H4 D (.lst (acc ++ [y]))) else Nx H3) := by
  refine lc_it w (fun i H' => Same H1 H' ∧ H' D = some (.lst (((xs.take i).filter p).map V.str))) ⟨same_upd hD, upd_same⟩ (fun i H' _ h => hG H' h.1) ?_ ?_
  · rintro i v H H' hi ⟨s1, d1⟩ y
    rw [List.length_map] at hi
    obtain ⟨x, hx⟩ : ∃ x, xs[i]? = some x := ⟨xs[i], List.getElem?_eq_getElem hi⟩
    have ft : (xs.take (i + 1)).filter p = (xs.take i).filter p ++ if p x = true then [x] else [] := by
      rw [List.take_add_one, hx, List.filter_append]
      show _ ++ List.filter p [x] = _
      rw [List.filter_cons, List.filter_nil]
    refine hs i x v H H' _ _ hx s1 y (fun c H4 s4 => ?_) (fun c H4 s4 => ?_)
    · rw [if_pos c] at ft
      refine ⟨_, s4 _ _ d1, ?_, fun b o e => ?_, ?_⟩
      · rw [List.length_map]
        exact small1000 (Nat.le_trans (List.length_filter_le _ _) (by rw [List.length_take]; omega))
      · rw [upd_ne (ne_of_none e hD)]
        exact s4 _ _ (s1 _ _ e)
      · rw [upd_same, ft, List.map_append]
        rfl
    · rw [if_neg (by rw [c]; exact Bool.false_ne_true), List.append_nil] at ft
      exact ⟨s1.trans s4, by rw [ft]; exact s4 _ _ d1⟩
  · rintro H ⟨s1, d1⟩
    rw [List.length_map, List.take_of_length_le (Nat.le_refl _)] at d1
    exact hd H s1 d1
end
theorem trues_all (n : Nat) : ((List.range n).map fun _ => V.bl true) = (List.replicate n true).map V.bl := by
  rw [List.map_const', List.length_range, List.map_replicate]
end Lk
set_option maxRecDepth 100000
set_option maxHeartbeats 4000000
namespace Lk
open PySem PySem.Spec PyProof.Rows L2
/-! ### the set of a tuple of texts -/
section
variable {P : Program} {w : World} {A : Around} {E : Value → Shared → Prop} {s : Shared}
theorem set_strsT {l : Addr} {its : List Value} {xs : List Str} {Q : Value → Shared → Prop} (hh : A.handled = none) (hl : s.heap.IsTuple l its.toArray) (hi : PyProof.Rows.StrsAre its xs) (nd : xs.Nodup) (few : xs.length + 1 < scanBound)
    (h : ∀ (h' : Heap) (tk : Nat), h'.SetOf (PySem.strKind P w) s.heap.objs.size (fun y => decide (y ∈ xs)) xs.length → (∀ b o, s.heap.get? b = some o → h'.get? b = some o) → Q (.ref s.heap.objs.size) { s with heap := h', toks := tk }) :
    wpAny (model P w) A (call (.type "set") [.ref l]) Q E s := by
  obtain ⟨c, tl, hmro⟩ := PySem.F.called_set.mro
  have k1 := PySem.F.called_set.made
  have k2 := PySem.F.called_set.sub
  refine wpAny_call (codeAny_of_tree (show wpAny _ _ (callAny (.type "set") _) _ _ _ from wpAny_pure ⟨Code.quiet_builtin _ (by decide +kernel), codeAny_builtin PySem.F.entry_type_call ?_⟩))
  rw [Around.under_plain (weight_type_call_type "set" [.ref l] []) rfl]
  have k3 := PySem.F.called_set.notType
  have k4 := PySem.F.called_set.canCreate
  have k5 := PySem.F.typeCall_set_1 (.ref l)
  repeat (any_goals (first | assumption | wp_step))
  refine codeAny_mono (code_set_new_1 (.ref l) (E := E) (Q₁ := fun obj s1 => ∃ led : Bool, obj = .ref s.heap.objs.size ∧ s1 = { s with heap := s.heap.push (setOb led) }) fun led => ⟨led, rfl, rfl⟩) fun r s1 hr => ?_
  match r, hr with
  | .error e, hr => exact hr
  | .ok .next, hr => exact hr.elim
  | .ok .brk, hr => exact hr.elim
  | .ok .cont, hr => exact hr.elim
  | .ok (.ret obj), hr =>
    obtain ⟨led, rfl, rfl⟩ := hr
    have gS : (s.heap.push (setOb led)).get? s.heap.objs.size = some (setOb led) := Heap.get?_push_size _ rfl
    have tS : Shared.TypeIs { s with heap := s.heap.push (setOb led) } (.ref s.heap.objs.size) "set" := ⟨_, gS, rfl⟩
    have k6 := PySem.F.called_set.init.lookup
    have k7 := PySem.F.called_set.init.bind (.ref s.heap.objs.size)
    repeat (any_goals (first | assumption | wp_step))
    refine codeAny_mono (codeAny_call_builtin (R := wants (fun r s2 => r = .none ∧ ∃ h' tk, s2 = { s with heap := h', toks := tk } ∧ h'.SetOf (PySem.strKind P w) s.heap.objs.size (fun y => decide (y ∈ xs)) xs.length ∧ (∀ b o, s.heap.get? b = some o → h'.get? b = some o)) E)
      PySem.F.called_set.init.plain PySem.F.entry_set_init (check_set_init_1 tS ?_)) fun r2 s2 hr2 => ?_
    · obtain ⟨⟨oc, od, oa, os⟩, lo, lc, nl, ld⟩ := hl
      simp only at lc ld
      subst lc ld
      have lt : l < s.heap.objs.size := Heap.lt_size lo
      have lo1 : (s.heap.push (setOb led)).get? l = some { cls := .type "tuple", dict := od, data := .seq its.toArray nl, slots := os } := Heap.get?_push_of_some _ lo
      have k8 := PySem.F.sub_tuple_set
      have k9 := PySem.F.sub_tuple_frozenset
      have k10 : (Value.type "tuple" == Value.type "dict") = false := by decide
      have l1 : (s.heap.push (setOb led)).IsTuple l its.toArray := ⟨_, lo1, rfl, nl, rfl⟩
      unfold Builtin.«set.__init__» noKeywords Builtin.Frozenset.updateFrom
      generalize hP : pyIter = Pi
      wp_walk
      subst hP
      refine wpAny_pyIter_tuple l1 (wpAny_bind (wpAny_runValue ?_))
      have sz : (s.heap.push (setOb led)).objs.size = s.heap.objs.size + 1 := Heap.size_push ..
      have ni : l ≠ (s.heap.push (setOb led)).objs.size := by rw [sz]; exact Nat.ne_of_lt (Nat.lt_succ_of_lt lt)
      have h3 : A.in1.in1.in1.handled = none := by simp [hh]
      have nf : s.heap.objs.size ∉ [(s.heap.push (setOb led)).objs.size, l] := fun z => by
        rcases List.mem_cons.mp z with z | z
        · rw [sz] at z
          exact Nat.ne_of_lt (Nat.lt_succ_self _) z
        · exact Nat.ne_of_gt lt (List.mem_singleton.mp z)
      have el : xs.length = its.toArray.size := by rw [← StrsAre.len_eq hi, List.size_toArray]
      refine strs_loop ((Walks.tuple h3 _ l ni its.toArray).toS) nf el nd (by rw [← el]; exact few) (fun i v hv => ?_) its.toArray.size 0 _ (Nat.zero_add _) ⟨⟨_, Heap.get?_push_size _ rfl, rfl, rfl⟩, l1.push _⟩ ?_ fun s' hm so => ?_
      · obtain ⟨t, e⟩ := SS.strs_at hi i v (by rw [← Array.getElem?_toList] at hv; simpa using hv)
        have li : i < xs.length := by
          have := (Array.getElem?_eq_some_iff.mp hv).1
          omega
        exact ⟨xs.getD i Str.empty, t, by rw [List.getD_eq_getElem?_getD, List.getElem?_eq_getElem li]; rfl, e⟩
      · have g2 := Heap.get?_push_of_some { cls := .type "tuple_iterator", data := .fields #[.ref l, .int 0 0] } gS
        exact SetOf_congr ((setObjOf_fresh (knd := PySem.strKind P w) led).setOf g2 (by unfold scanBound; omega)) (fun _ => rfl) rfl
      · obtain ⟨h', g', d', tk', os'⟩ := s'
        obtain rfl : g' = s.gens := hm.gens
        obtain rfl : d' = s.drawn := hm.drawn
        obtain rfl : os' = s.os := hm.os
        refine wpAny_pure (show wpAny _ _ (ret Value.none) _ _ _ from wpAny_pure ⟨rfl, h', tk', rfl, by rw [el]; exact so, fun b o z => ?_⟩)
        have bl := Heap.lt_size z
        refine hm.heap b o (fun q => ?_) (Heap.get?_push_of_some _ (Heap.get?_push_of_some _ z))
        rcases List.mem_cons.mp q with q | q
        · exact Nat.ne_of_lt bl q
        · have := List.mem_singleton.mp q
          rw [sz] at this
          exact Nat.ne_of_lt (Nat.lt_succ_of_lt bl) this
    · match r2, hr2 with
      | .error e, hr2 => exact hr2
      | .ok .next, hr2 => exact hr2.elim
      | .ok .brk, hr2 => exact hr2.elim
      | .ok .cont, hr2 => exact hr2.elim
      | .ok (.ret r), hr2 =>
        obtain ⟨rfl, h', tk, rfl, so, kp⟩ := hr2
        repeat (any_goals (first | assumption | wp_step))
        exact h _ _ so kp
end
section
variable {X : Cx}
def tLenStrsT (K : PySem.W.Frag) (ta : TE) : TE := fun σ H Q => ta σ H fun x H1 => ∃ (l : Addr) (xs : List Str), x = .ref l ∧ TupAt H1 l (xs.map V.str) ∧ xs.Nodup ∧ xs.length ≤ 100 ∧ Q (.int xs.length) H1
theorem pe_lenStrsT {a : Expr} {ta : TE} {p p2 q pos : Pos} (hc : X.calm = true) (hg : Gl X "len") (hm : X.mg "len" = none) (hg2 : Gl X "set") (hm2 : X.mg "set" = none) (ha : PE X a ta)
    (na : starEach [a] X.env = (false, eval a X.env) :: starEach [] X.env := by rfl) : PE X (.Call (.Name "len" p) [.Call (.Name "set" p2) [a] [] q] [] pos) (tLenStrsT X.K ta) := by
  refine ⟨fun pins s σ H Q I h => Call_ (ld_blt I hg hm PySem.boot_len (PyProof.Rows.callWith_builtin1 (PyProof.Rows.args_cons (Call_ (ld_blt I hg2 hm2 PyProof.Rows.boot_set ?_)) rfl) rfl rfl))⟩
  refine PyProof.Rows.callWith_type1 (PyProof.Rows.args_cons (thn (ha.run pins s σ H _ I h) fun v s1 ⟨x, H1, I1, r1, q1⟩ => PyProof.Rows.args_nil ?_) na) na rfl
  obtain ⟨l, xs, rfl, e, nd, few, q1⟩ := q1
  cases r1
  obtain ⟨its, r, pl, _⟩ := I1.tuple (e.sq (K := X.K))
  refine set_strsT (I1.ok.hd hc) pl (by simpa using strsAre_of r) nd (by unfold scanBound; omega) fun h' tk so kp => PyProof.Rows.args_nil ?_
  obtain ⟨o, es, ep, t, ho, ex, hd, _, _, _, hf, hn⟩ := so
  exact call_len_set ho ex hd hf (by rw [hn] <;> omega) ⟨.int xs.length, H1, (I1.kept fun b o z => kp b o z).tok _, ⟨_, by rw [hn]⟩, q1⟩
end
end Lk
set_option maxRecDepth 100000
set_option maxHeartbeats 4000000
namespace Lk
open PySem PySem.Spec PyProof.Rows L2
theorem ord_ring {ps : List (Str × Str)} {row : List Str} (irr : Irr ps) (hd : row.Nodup) (ne : goneR ps [] row ≠ []) : RingOk ps row (goneR ps [] row) (ringOf ps row (goneR ps [] row)) := by
  obtain ⟨r1, r2, _⟩ := gone_red (stay := []) irr row.length row rfl hd
  exact ringOf_ok hd r1 r2 ne
theorem ord_len {ps : List (Str × Str)} {row : List Str} {bs : List B3} (irr : Irr ps) (hd : row.Nodup) (ne : goneR ps [] row ≠ []) (e : bs.map (·.2) = ringOf ps row (goneR ps [] row)) : bs.length ≤ row.length := by
  obtain ⟨r1, _, _⟩ := gone_red (stay := []) irr row.length row rfl hd
  have h := ring_len (ord_ring irr hd ne)
  rw [← e, List.length_map] at h
  exact Nat.le_trans h r1.len
theorem OrdAt.lst {H : Hp} {p : Addr} {w : Str} {ps : List (Str × Str)} {row : List Str} (irr : Irr ps) (hd : row.Nodup) (hn : row.length ≤ 100) (h : OrdAt H p w ps row) : ∃ xs, H p = some (.lst xs) ∧ xs.length ≤ 100 ∧
    (∀ ke H', Same H H' → H' ke = some (.lst xs) → OrdAt H' ke w ps row) ∧ (∀ ke o', ke ≠ p → H ke = some (.lst xs) → OrdAt (upd H p o') ke w ps row) := by
  obtain ⟨_, _, gl⟩ := gone_red (stay := []) irr row.length row rfl hd
  rcases h with ⟨a1, a2, a3⟩ | ⟨a1, a2, bs, a3, a4, a5⟩
  · exact ⟨_, a3, by rw [List.length_map, List.length_reverse]; omega, fun ke H' s e => .inl ⟨a1, a2, e⟩, fun ke o' ne e => .inl ⟨a1, a2, (upd_ne ne).trans e⟩⟩
  · have bl := ord_len irr hd a1 a5
    refine ⟨_, a3, by show (bs.map _).length ≤ 100; rw [List.length_map]; omega, fun ke H' s e => .inr ⟨a1, a2, bs, e, a4.same s, a5⟩, fun ke o' ne e => .inr ⟨a1, a2, bs, (upd_ne ne).trans e, fun c hc => ?_, a5⟩⟩
    exact (upd_ne (ne_of (a4 c hc) a3 (fun z => nomatch z))).trans (a4 c hc)
end Lk
set_option maxRecDepth 100000
set_option maxHeartbeats 4000000
namespace Lk
open PySem PySem.Spec PyProof.Rows L2

/-! ### letters -/
theorem letter_ge {c : Nat} (h : 97 ≤ c) : (!decide (([c] : List Nat) < (("a" : Str)).cps.toList)) = true := by
  have e : (("a" : Str)).cps.toList = [97] := by decide +kernel
  rw [e]
  have : ¬ ([c] : List Nat) < [97] := fun z => by
    rcases List.cons_lt_cons_iff.mp z with z | ⟨_, z⟩
    · omega
    · exact absurd z (List.not_lt_nil _)
  rw [decide_eq_false this]
  rfl
theorem letter_le {c : Nat} (h : c ≤ 122) : (!decide ((("z" : Str)).cps.toList < ([c] : List Nat))) = true := by
  have e : (("z" : Str)).cps.toList = [122] := by decide +kernel
  rw [e]
  have : ¬ ([122] : List Nat) < [c] := fun z => by
    rcases List.cons_lt_cons_iff.mp z with z | ⟨_, z⟩
    · omega
    · exact absurd z (List.not_lt_nil _)
  rw [decide_eq_false this]
  rfl

def rLeS : R2 := fun x y H Q => ∃ i j, x = .str i ∧ y = .str j ∧ Q (.bl (!decide (j.cps.toList < i.cps.toList))) H
theorem op_leS {X : Cx} : OpR X (compareOp .LtE) rLeS := op_le_str
/-! ### promises of the small judges -/
def spIsName : Sp := fun vs H Q _ => ∃ x : Str, vs = [.str x] ∧ NameOk x ∧ ∀ H', Same H H' → Q (.bl true) H'
def spIsRow : Sp := fun vs H Q _ => ∃ (t : Addr) (xs : List Str), vs = [.ref t] ∧ TupAt H t (xs.map V.str) ∧ (∀ x ∈ xs, NameOk x) ∧ xs.Nodup ∧ xs.length ≤ 100 ∧ ∀ H', Same H H' → Q (.bl true) H'
def LinksOk (H : Hp) (p : Addr) (bs : List B3) : Prop := H p = some (.lst (refs bs)) ∧ PairsAt H bs ∧ (∀ b ∈ bs, NameOk b.2.1) ∧ (bs.map (·.2.1)).Nodup ∧ bs ≠ [] ∧ bs.length ≤ 100
theorem LinksOk.same {H H' : Hp} {p : Addr} {bs : List B3} (s : Same H H') (h : LinksOk H p bs) : LinksOk H' p bs := ⟨s _ _ h.1, h.2.1.same s, h.2.2⟩
end Lk
set_option maxRecDepth 100000
set_option maxHeartbeats 4000000
namespace Lk
open PySem PySem.Spec PyProof.Rows L2

/-! ### whoever comes, the same are left -/
/-- what order_of told, and who came since -/
def MatAt (H : Hp) (p : Addr) (word : Str) (ps : List (Str × Str)) (row more : List Str) : Prop :=
  (word = "ring" ∧ goneR ps [] row ≠ [] ∧ ∃ bs : List B3, H p = some (.lst (refs bs)) ∧ PairsAt H bs ∧ bs.map (·.2) = ringOf ps row (goneR ps [] row)) ∨ (word = "order" ∧ goneR ps [] row = [] ∧ H p = some (.lst (((goneO ps [] row).reverse ++ more).map V.str)))
theorem MatAt.same {H H' : Hp} {p : Addr} {word : Str} {ps : List (Str × Str)} {row more : List Str} (s : Same H H') (h : MatAt H p word ps row more) : MatAt H' p word ps row more :=
  h.elim (fun ⟨h1, h2, bs, h3, h4, h5⟩ => .inl ⟨h1, h2, bs, s _ _ h3, h4.same s, h5⟩) (fun ⟨h1, h2, h3⟩ => .inr ⟨h1, h2, s _ _ h3⟩)
theorem OrdAt.word {H : Hp} {p : Addr} {w : Str} {ps : List (Str × Str)} {row : List Str} (h : OrdAt H p w ps row) : (w = "ring" ∧ goneR ps [] row ≠ []) ∨ (w = "order" ∧ goneR ps [] row = []) := h.elim (fun h => .inr ⟨h.2.1, h.1⟩) (fun h => .inl ⟨h.2.1, h.1⟩)
end Lk
set_option maxRecDepth 100000
set_option maxHeartbeats 4000000
namespace Lk
open PySem PySem.Spec PyProof.Rows L2

/-! ### deeds: nobody: a serving; somebody: its coming -/
abbrev Deed := Option Str
def deedL : Deed → List Str
  | none => ["serve"]
  | some x => ["come", x]
abbrev LD := Addr × Deed
def refsD (ds : List LD) : List V := ds.map fun q => V.ref q.1
def DeedsAt (H : Hp) (ds : List LD) : Prop := ∀ q ∈ ds, TupAt H q.1 ((deedL q.2).map V.str)
theorem DeedsAt.same {H H' : Hp} {ds : List LD} (s : Same H H') (h : DeedsAt H ds) : DeedsAt H' ds := fun q hq => (h q hq).same s
/-- the row and those who were served, behind one deed -/
def stepD (ps : List (Str × Str)) (st : List Str × List Str) (met : List Str) : Deed → Option (List Str × List Str)
  | none => if st.1 = [] then none else some (st.1.drop 1, st.2 ++ st.1.take 1)
  | some x => if x ∈ met then none else some (comeTo ps st.1 x, st.2)
def comers (ds : List Deed) : List Str := ds.filterMap id
def goD (ps : List (Str × Str)) : List Deed → List Str × List Str → List Str → Option (List Str × List Str)
  | [], st, _ => some st
  | d :: ds, st, met => match stepD ps st met d with
    | none => none
    | some st' => goD ps ds st' (met ++ d.toList)
theorem goD_snoc (ps : List (Str × Str)) (d : Deed) : ∀ (ds : List Deed) (st : List Str × List Str) (met : List Str), goD ps (ds ++ [d]) st met = match goD ps ds st met with | none => none | some st' => stepD ps st' (met ++ comers ds) d
  | [], st, met => by
    show (match stepD ps st met d with | none => none | some st' => some st') = stepD ps st (met ++ comers []) d
    rw [show met ++ comers [] = met from List.append_nil met]
    cases stepD ps st met d <;> rfl
  | e :: ds, st, met => by
    show (match stepD ps st met e with | none => none | some st' => goD ps (ds ++ [d]) st' (met ++ e.toList)) = match (match stepD ps st met e with | none => none | some st' => goD ps ds st' (met ++ e.toList)) with | none => none | some st' => stepD ps st' (met ++ comers (e :: ds)) d
    cases h : stepD ps st met e with
    | none => rfl
    | some st' =>
      show goD ps (ds ++ [d]) st' (met ++ e.toList) = match goD ps ds st' (met ++ e.toList) with | none => none | some st'' => stepD ps st'' (met ++ comers (e :: ds)) d
      rw [goD_snoc ps d ds st' (met ++ e.toList)]
      have ec : met ++ e.toList ++ comers ds = met ++ comers (e :: ds) := by
        rw [List.append_assoc]
        cases e with
        | none => rfl
        | some x => rfl
      rw [ec]
theorem go_none {ps : List (Str × Str)} : ∀ {ds : List Deed} {st : List Str × List Str} {met : List Str}, goD ps ds st met = none → ∀ more, goD ps (ds ++ more) st met = none
  | [], st, met, h, more => by cases h
  | d :: ds, st, met, h, more => by
    have h' : (match stepD ps st met d with | none => none | some s2 => goD ps ds s2 (met ++ d.toList)) = none := h
    show (match stepD ps st met d with | none => none | some s2 => goD ps (ds ++ more) s2 (met ++ d.toList)) = none
    cases e : stepD ps st met d with
    | none => rfl
    | some s2 =>
      rw [e] at h'
      exact go_none (ds := ds) h' more
theorem comers_snoc (ds : List Deed) (d : Deed) : comers (ds ++ [d]) = comers ds ++ d.toList := by
  unfold comers
  rw [List.filterMap_append]
  cases d <;> rfl
/-- nobody is in it twice, and none but those who came or were there -/
theorem go_perm {ps : List (Str × Str)} : ∀ (ds : List Deed) (st : List Str × List Str) (met : List Str) (st' : List Str × List Str), goD ps ds st met = some st' → (st'.2 ++ st'.1).Perm (comers ds ++ (st.2 ++ st.1))
  | [], st, met, st', h => by
    have e : st = st' := Option.some.inj h
    subst e
    exact List.Perm.refl _
  | d :: ds, st, met, st', h => by
    have h' : (match stepD ps st met d with | none => none | some s2 => goD ps ds s2 (met ++ d.toList)) = some st' := h
    cases e : stepD ps st met d with
    | none => rw [e] at h'; cases h'
    | some s2 =>
      rw [e] at h'
      have ih := go_perm ds s2 (met ++ d.toList) st' h'
      refine ih.trans ?_
      cases d with
      | none =>
        have e2 : (if st.1 = [] then none else some (st.1.drop 1, st.2 ++ st.1.take 1)) = some s2 := e
        by_cases c : st.1 = []
        · rw [if_pos c] at e2
          cases e2
        · rw [if_neg c] at e2
          have e3 := Option.some.inj e2
          subst e3
          show (comers ds ++ ((st.2 ++ st.1.take 1) ++ st.1.drop 1)).Perm (comers ds ++ (st.2 ++ st.1))
          rw [List.append_assoc, List.take_append_drop]
      | some x =>
        have e2 : (if x ∈ met then none else some (comeTo ps st.1 x, st.2)) = some s2 := e
        by_cases c : x ∈ met
        · rw [if_pos c] at e2
          cases e2
        · rw [if_neg c] at e2
          have e3 := Option.some.inj e2
          subst e3
          show (comers ds ++ (st.2 ++ comeTo ps st.1 x)).Perm (x :: comers ds ++ (st.2 ++ st.1))
          have p1 : (st.2 ++ comeTo ps st.1 x).Perm (x :: (st.2 ++ st.1)) := (List.Perm.append_left _ (come_perm ps st.1 x)).trans List.perm_middle
          exact (List.Perm.append_left _ p1).trans List.perm_middle
/-! ### promises -/
def spStep : Sp := fun vs H Q _ => ∃ (a t g d m : Addr) (ps : List (Str × Str)) (st gn met : List Str) (dd : Deed), vs = [.ref a, .ref t, .ref g, .ref d, .ref m] ∧ PalsAt H a ps ∧ PalsOk ps ∧ TupAt H t (st.map V.str) ∧ TupAt H g (gn.map V.str) ∧ TupAt H d ((deedL dd).map V.str) ∧ H m = some (.lst (met.map V.str)) ∧ Goods st ∧ (∀ x, dd = some x → Good x) ∧ st.length ≤ 100 ∧ gn.length ≤ 100 ∧
  (∀ H', Same H H' → stepD ps (st, gn) met dd = none → Q .non H') ∧
  (∀ T t' g' st' gn' H', Same H H' → stepD ps (st, gn) met dd = some (st', gn') → H' T = some (.tup [.ref t', .ref g']) → TupAt H' t' (st'.map V.str) → TupAt H' g' (gn'.map V.str) → Q (.ref T) H')
def spThrough : Sp := fun vs H Q _ => ∃ (a t p : Addr) (ps : List (Str × Str)) (olds : List Str) (ds : List LD), vs = [.ref a, .ref t, .ref p] ∧ PalsAt H a ps ∧ PalsOk ps ∧ RowAt H t olds ∧ Goods olds ∧ H p = some (.lst (refsD ds)) ∧ DeedsAt H ds ∧ (∀ q ∈ ds, ∀ x, q.2 = some x → Good x) ∧ olds.length + ds.length ≤ 90 ∧
  (∀ H', Same H H' → goD ps (ds.map (·.2)) (olds, []) olds = none → Q .non H') ∧
  (∀ T t' g' st' gn' H', Same H H' → goD ps (ds.map (·.2)) (olds, []) olds = some (st', gn') → H' T = some (.tup [.ref g', .ref t']) → TupAt H' t' (st'.map V.str) → TupAt H' g' (gn'.map V.str) → Q (.ref T) H')
end Lk
set_option maxRecDepth 100000
set_option maxHeartbeats 4000000
namespace Lk
open PySem PySem.Spec PyProof.Rows L2

/-! ### back through servings -/
/-- no friend of it stands behind it -/
def NoBeh (ps : List (Str × Str)) (row : List Str) (x : Str) : Prop := ∃ c d, row = c ++ x :: d ∧ ∀ y ∈ d, frd ps x y = false
theorem LooseIn.nb {ps : List (Str × Str)} {row : List Str} {x : Str} (h : LooseIn ps row x) : NoBeh ps row x := by
  obtain ⟨a, b, e, h1, _⟩ := h
  exact ⟨a, b, e, h1⟩
theorem NoBeh.mem {ps : List (Str × Str)} {row : List Str} {x : Str} (h : NoBeh ps row x) : x ∈ row := by
  obtain ⟨a, b, rfl, _⟩ := h
  simp
theorem NoBeh.cons {ps : List (Str × Str)} {row : List Str} {x : Str} (y : Str) (h : NoBeh ps row x) : NoBeh ps (y :: row) x := by
  obtain ⟨a, b, rfl, h1⟩ := h
  exact ⟨y :: a, b, rfl, h1⟩
theorem NoBeh.rem_ {ps : List (Str × Str)} {row : List Str} {x y : Str} (h : NoBeh ps row x) (ne : x ≠ y) : NoBeh ps (rem row y) x := by
  obtain ⟨a, b, rfl, h1⟩ := h
  refine ⟨rem a y, rem b y, ?_, fun z hz => h1 z (List.mem_filter.mp hz).1⟩
  unfold rem
  rw [List.filter_append, List.filter_cons]
  simp [ne]
theorem diamondN {ps : List (Str × Str)} {row : List Str} {x y : Str} (hd : row.Nodup) (hx : LooseIn ps row x) (hy : NoBeh ps row y) (ne : x ≠ y) : LooseIn ps (rem row y) x := by
  obtain ⟨a, b, e, h1, h2⟩ := hx
  have my : y ∈ row := hy.mem
  obtain ⟨c, d, e', g1⟩ := hy
  have my' : y ∈ a ∨ y ∈ b := by
    rw [e] at my
    rcases List.mem_append.mp my with z | z
    · exact .inl z
    · rcases List.mem_cons.mp z with z | z
      · exact absurd z.symm ne
      · exact .inr z
  rcases my' with m | m
  · obtain ⟨a1, a2, rfl⟩ := List.append_of_mem m
    have e2 : row = a1 ++ y :: (a2 ++ x :: b) := by rw [e]; simp
    have er : rem row y = (a1 ++ a2) ++ x :: b := by
      rw [e2, rem_split (by rw [← e2]; exact hd)]
      simp
    refine ⟨a1 ++ a2, b, er, h1, ?_⟩
    obtain ⟨_, u2⟩ := split_uniq hd e2 e'
    rcases h2 with ⟨a', f, ea, hf⟩ | ⟨na, nb⟩
    · rcases List.eq_nil_or_concat a2 with z | ⟨l, g, z⟩
      · subst z
        have q := List.append_inj' ea (by rfl)
        have ey : y = f := (List.cons.inj q.2).1
        have bad := g1 x (by rw [← u2]; simp)
        rw [frd_comm, ey, hf] at bad
        cases bad
      · rw [List.concat_eq_append] at z
        subst z
        have ea' : (a1 ++ y :: l) ++ [g] = a' ++ [f] := by rw [← ea]; simp
        have q := List.append_inj' ea' rfl
        have eg : g = f := (List.cons.inj q.2).1
        exact .inl ⟨a1 ++ l, g, by simp, by rw [eg]; exact hf⟩
    · exact .inr ⟨fun z hz => na z (by
        rcases List.mem_append.mp hz with w | w
        · exact List.mem_append_left _ w
        · exact List.mem_append_right _ (List.mem_cons_of_mem _ w)), nb⟩
  · obtain ⟨b1, b2, rfl⟩ := List.append_of_mem m
    have e2 : row = (a ++ x :: b1) ++ y :: b2 := by rw [e]; simp
    have er : rem row y = a ++ x :: (b1 ++ b2) := by
      rw [e2, rem_split (by rw [← e2]; exact hd)]
      simp
    refine ⟨a, b1 ++ b2, er, fun z hz => h1 z (by
        rcases List.mem_append.mp hz with w | w
        · exact List.mem_append_left _ w
        · exact List.mem_append_right _ (List.mem_cons_of_mem _ w)), ?_⟩
    rcases h2 with h | ⟨_, z⟩
    · exact .inl h
    · exact absurd z (by simp)
/-- back from a row, `m` served, to one with `m0` served: the last deed first; whoever has to stay at that moment stays -/
inductive Way (ps : List (Str × Str)) (stay : Nat → List Str) (sv : List Str) (m0 : Nat) : Nat → List Str → List Deed → List Str → Prop where
  | done (row : List Str) : Way ps stay sv m0 m0 row [] row
  | go {m : Nat} {row : List Str} {ds : List Deed} {fin : List Str} (x : Str) (h : LooseIn ps row x) (hs : x ∉ stay m) (t : Way ps stay sv m0 m (rem row x) ds fin) : Way ps stay sv m0 m row (some x :: ds) fin
  | back {m : Nat} {row : List Str} {ds : List Deed} {fin : List Str} (y : Str) (h : sv[m]? = some y) (t : Way ps stay sv m0 m (y :: row) ds fin) : Way ps stay sv m0 (m + 1) row (none :: ds) fin
section
variable {ps : List (Str × Str)} {stay stay' : Nat → List Str} {sv : List Str} {m0 m1 m : Nat} {row mid fin : List Str} {ds ds' : List Deed}
theorem Way.le (h : Way ps stay sv m0 m row ds fin) : m0 ≤ m := by
  induction h with
  | done _ => exact Nat.le_refl _
  | go x h hs t ih => exact ih
  | back y h t ih => omega
theorem Way.trans (h : Way ps stay sv m1 m row ds mid) : Way ps stay sv m0 m1 mid ds' fin → Way ps stay sv m0 m row (ds ++ ds') fin := by
  induction h with
  | done _ => exact id
  | go x h hs t ih => exact fun k => .go x h hs (ih k)
  | back y h t ih => exact fun k => .back y h (ih k)
theorem line_back {y : Str} (h : sv[m]? = some y) : sv.take (m + 1) ++ row = sv.take m ++ y :: row := by
  rw [List.take_add_one, h]
  simp
theorem nd_right {a b : List Str} (h : (a ++ b).Nodup) : b.Nodup := (List.nodup_append.mp h).2.1
theorem nd_rem {a b : List Str} {x : Str} (h : (a ++ b).Nodup) : (a ++ rem b x).Nodup := h.sublist (List.Sublist.append_left List.filter_sublist _)
theorem Way.sub (h : Way ps stay sv m0 m row ds fin) : ∀ x ∈ fin, x ∈ sv.take m ++ row := by
  induction h with
  | done _ => exact fun x hx => List.mem_append_right _ hx
  | go y h hs t ih =>
    intro x hx
    rcases List.mem_append.mp (ih x hx) with z | z
    · exact List.mem_append_left _ z
    · exact List.mem_append_right _ (List.mem_filter.mp z).1
  | back y h t ih =>
    intro x hx
    rw [line_back h]
    exact ih x hx
theorem rem_no {row : List Str} {x : Str} (h : x ∉ row) : rem row x = row := List.filter_eq_self.mpr fun y hy => by
  have : ¬ y = x := fun z => h (z ▸ hy)
  simp [this]
/-- who could go once may be gone at once -/
theorem Way.swap (h : Way ps stay sv m0 m row ds fin) : (sv.take m ++ row).Nodup → ∀ x, NoBeh ps row x → ∃ ds', Way ps stay sv m0 m (rem row x) ds' (rem fin x) := by
  induction h with
  | done row => exact fun _ x _ => ⟨[], .done _⟩
  | @go m row ds fin y hy hs t ih =>
    intro hd x hx
    by_cases e : y = x
    · subst e
      have ny : y ∉ fin := fun z => by
        have q := t.sub y z
        have dj := (List.nodup_append.mp hd).2.2
        rcases List.mem_append.mp q with u | u
        · exact dj y u y hx.mem rfl
        · have := (List.mem_filter.mp u).2
          simp at this
      rw [rem_no ny]
      exact ⟨ds, t⟩
    · obtain ⟨ds', w⟩ := ih (nd_rem hd) x (hx.rem_ (fun z => e z.symm))
      rw [rem_comm] at w
      exact ⟨some y :: ds', .go y (diamondN (nd_right hd) hy hx e) hs w⟩
  | @back m row ds fin y hy t ih =>
    intro hd x hx
    rw [line_back hy] at hd
    have ne : y ≠ x := fun z => by
      have := (List.nodup_cons.mp (nd_right hd)).1
      exact this (z ▸ hx.mem)
    obtain ⟨ds', w⟩ := ih hd x (hx.cons y)
    have e : rem (y :: row) x = y :: rem row x := by
      unfold rem
      rw [List.filter_cons]
      simp [ne]
    rw [e] at w
    exact ⟨none :: ds', .back y hy w⟩
theorem gone_way (irr : Irr ps) : ∀ (n : Nat) (row : List Str), row.length = n → row.Nodup → ∀ {ds fin}, Way ps stay sv m0 m (goneR ps (stay m) row) ds fin → Way ps stay sv m0 m row ((goneO ps (stay m) row).map some ++ ds) fin
  | n, row, hn, hd, ds, fin, w => by
    cases e : (someL ps (stay m) row).getLast? with
    | none =>
      have e' : someL ps (stay m) row = [] := List.getLast?_eq_none_iff.mp e
      obtain ⟨e1, e2⟩ := gone_none e'
      rw [e2] at w
      rw [e1]
      exact w
    | some x =>
      obtain ⟨e1, e2⟩ := gone_some hd e
      rw [e2] at w
      rw [e1]
      have hm := someL_sub (last_mem e)
      have hl := (looseL_iff irr hd).mp hm.1
      have len := rem_len hd hl.mem
      exact .go x hl hm.2 (gone_way irr (rem row x).length (rem row x) rfl (rem_nodup hd) w)
  termination_by n => n
  decreasing_by omega
/-- whoever can go goes, at every moment -/
def trace (ps : List (Str × Str)) (stay : Nat → List Str) (sv : List Str) : Nat → List Str → List Deed × List Str
  | 0, row => ((goneO ps (stay 0) row).map some, goneR ps (stay 0) row)
  | m + 1, row => ((goneO ps (stay (m + 1)) row).map some ++ none :: (trace ps stay sv m (sv.getD m "" :: goneR ps (stay (m + 1)) row)).1, (trace ps stay sv m (sv.getD m "" :: goneR ps (stay (m + 1)) row)).2)
theorem Red.nd2 {s : List Str} {a row n : List Str} (r : Red ps s row n) : (a ++ row).Nodup → (a ++ n).Nodup := by
  induction r with
  | done _ => exact id
  | go x _ _ t ih => exact fun h => ih (nd_rem h)
theorem getD_at {m : Nat} (h : m < sv.length) : sv[m]? = some (sv.getD m "") := by
  rw [List.getD_eq_getElem?_getD, List.getElem?_eq_getElem h]
  rfl
theorem trace_way (irr : Irr ps) : ∀ (m : Nat) (row : List Str), m ≤ sv.length → (sv.take m ++ row).Nodup → Way ps stay sv 0 m row (trace ps stay sv m row).1 (trace ps stay sv m row).2
  | 0, row, _, hd => by
    have w := gone_way (ps := ps) (stay := stay) (sv := sv) (m0 := 0) (m := 0) irr row.length row rfl (nd_right hd) (.done (goneR ps (stay 0) row))
    rw [List.append_nil] at w
    exact w
  | m + 1, row, hm, hd => by
    have hy := getD_at (sv := sv) (m := m) (by omega)
    have g := gone_red (ps := ps) (stay := stay (m + 1)) irr row.length row rfl (nd_right hd)
    have hd2 := g.1.nd2 hd
    rw [line_back hy] at hd2
    exact gone_way irr row.length row rfl (nd_right hd) (.back _ hy (trace_way irr m _ (by omega) hd2))
/-! ### histories are such ways -/
def Free (stay : Nat → List Str) : Nat → List Deed → Prop
  | _, [] => True
  | m, none :: ds => Free stay (m + 1) ds
  | m, some x :: ds => x ∉ stay m ∧ Free stay m ds
theorem go_pre : ∀ (ds : List Deed) {st : List Str × List Str} {met : List Str} {st' : List Str × List Str}, goD ps ds st met = some st' → ∃ e, st'.2 = st.2 ++ e
  | [], st, met, st', h => by
    have e : st = st' := Option.some.inj h
    subst e
    exact ⟨[], by simp⟩
  | d :: ds, st, met, st', h => by
    have h' : (match stepD ps st met d with | none => none | some s2 => goD ps ds s2 (met ++ d.toList)) = some st' := h
    cases e : stepD ps st met d with
    | none => rw [e] at h'; cases h'
    | some s2 =>
      rw [e] at h'
      obtain ⟨e3, q⟩ := go_pre ds h'
      cases d with
      | none =>
        have e2 : (if st.1 = [] then none else some (st.1.drop 1, st.2 ++ st.1.take 1)) = some s2 := e
        by_cases c : st.1 = []
        · rw [if_pos c] at e2
          cases e2
        · rw [if_neg c] at e2
          have e5 := Option.some.inj e2
          subst e5
          exact ⟨st.1.take 1 ++ e3, by rw [q, List.append_assoc]⟩
      | some x =>
        have e2 : (if x ∈ met then none else some (comeTo ps st.1 x, st.2)) = some s2 := e
        by_cases c : x ∈ met
        · rw [if_pos c] at e2
          cases e2
        · rw [if_neg c] at e2
          have e5 := Option.some.inj e2
          subst e5
          exact ⟨e3, q⟩
theorem go_way : ∀ (ds : List Deed) {st0 gn0 met st gn : List Str}, goD ps ds (st0, gn0) met = some (st, gn) → (∀ x ∈ gn0 ++ st0, x ∈ met) → (gn0 ++ st0).Nodup → Free stay gn0.length ds → (∃ more, sv = gn ++ more) → Way ps stay sv gn0.length gn.length st ds.reverse st0
  | [], st0, gn0, met, st, gn, h, _, _, _, _ => by
    have e : (st0, gn0) = (st, gn) := Option.some.inj h
    have e1 : st0 = st := congrArg Prod.fst e
    have e2 : gn0 = gn := congrArg Prod.snd e
    subst e1
    subst e2
    exact .done _
  | none :: ds, st0, gn0, met, st, gn, h, hm, hd, hf, hs => by
    have h' : (match (if st0 = [] then none else some (st0.drop 1, gn0 ++ st0.take 1)) with | none => none | some s2 => goD ps ds s2 (met ++ [])) = some (st, gn) := h
    cases st0 with
    | nil =>
      rw [if_pos rfl] at h'
      cases h'
    | cons y st1 =>
      rw [if_neg (by simp), List.append_nil] at h'
      have h2 : goD ps ds (st1, gn0 ++ [y]) met = some (st, gn) := h'
      have hd2 : ((gn0 ++ [y]) ++ st1).Nodup := by
        rw [List.append_assoc]
        exact hd
      have l1 : (gn0 ++ [y]).length = gn0.length + 1 := by simp
      have w := go_way ds h2 (fun x hx => hm x (by simpa using hx)) hd2 (by rw [l1]; exact hf) hs
      rw [l1] at w
      obtain ⟨e, q⟩ := go_pre ds h2
      obtain ⟨more, hmore⟩ := hs
      have at_ : sv[gn0.length]? = some y := by
        rw [hmore, show gn = (gn0 ++ [y]) ++ e from q]
        simp
      rw [List.reverse_cons]
      exact w.trans (.back y at_ (.done _))
  | some x :: ds, st0, gn0, met, st, gn, h, hm, hd, hf, hs => by
    have h' : (match (if x ∈ met then none else some (comeTo ps st0 x, gn0)) with | none => none | some s2 => goD ps ds s2 (met ++ [x])) = some (st, gn) := h
    by_cases c : x ∈ met
    · rw [if_pos c] at h'
      cases h'
    · rw [if_neg c] at h'
      have h2 : goD ps ds (comeTo ps st0 x, gn0) (met ++ [x]) = some (st, gn) := h'
      have nx : x ∉ gn0 ++ st0 := fun z => c (hm x z)
      have pm : (gn0 ++ comeTo ps st0 x).Perm (x :: (gn0 ++ st0)) := (List.Perm.append_left _ (come_perm ps st0 x)).trans List.perm_middle
      have hd2 : (gn0 ++ comeTo ps st0 x).Nodup := pm.nodup_iff.mpr (List.nodup_cons.mpr ⟨nx, hd⟩)
      have w := go_way ds h2 (fun y hy => by
        rcases List.mem_cons.mp (pm.mem_iff.mp hy) with z | z
        · rw [z]
          simp
        · exact List.mem_append_left _ (hm y z)) hd2 hf.2 hs
      rw [List.reverse_cons]
      refine w.trans (.go x (come_loose ps st0 x) hf.1 ?_)
      rw [come_rem (List.nodup_cons.mpr ⟨fun z => nx (List.mem_append_right _ z), nd_right hd⟩)]
      exact .done _
theorem way_go (irr : Irr ps) (h : Way ps stay sv m0 m row ds fin) : (sv.take m ++ row).Nodup → ∀ met, (∀ x ∈ met, x ∈ sv.take m0 ++ fin) → goD ps ds.reverse (fin, sv.take m0) met = some (row, sv.take m) := by
  induction h with
  | done row => exact fun _ _ _ => rfl
  | @go m row ds fin x hx hs t ih =>
    intro hd met hm
    have q := ih (nd_rem hd) met hm
    rw [List.reverse_cons, goD_snoc, q]
    show (if x ∈ met ++ comers ds.reverse then none else some (comeTo ps (rem row x) x, sv.take m)) = _
    have pm := go_perm _ _ _ _ q
    have nx : x ∉ met ++ comers ds.reverse := fun z => by
      have : x ∈ comers ds.reverse ++ (sv.take m0 ++ fin) := by
        rcases List.mem_append.mp z with u | u
        · exact List.mem_append_right _ (hm x u)
        · exact List.mem_append_left _ u
      have u := pm.mem_iff.mpr this
      have dj := (List.nodup_append.mp hd).2.2
      rcases List.mem_append.mp u with v | v
      · exact dj x v x hx.mem rfl
      · have := (List.mem_filter.mp v).2
        simp at this
    rw [if_neg nx, loose_come irr (nd_right hd) hx]
  | @back m row ds fin y hy t ih =>
    intro hd met hm
    rw [line_back hy] at hd
    have q := ih hd met hm
    rw [List.reverse_cons, goD_snoc, q]
    show (if y :: row = [] then none else some ((y :: row).drop 1, sv.take m ++ (y :: row).take 1)) = _
    rw [if_neg (by simp), List.take_add_one (l := sv), hy]
    rfl
end
/-! ### traced_back -/
def waitsL (ws : Option (Str × Nat)) : List (Key × V) := match ws with
  | none => []
  | some (w, n) => [(.inr w, .int (n : Nat))]
def waitN (ws : Option (Str × Nat)) (m : Nat) : List Str := match ws with
  | none => []
  | some (w, n) => if n = m then [] else [w]
def wkeys (ws : Option (Str × Nat)) : List Str := match ws with
  | none => []
  | some (w, _) => [w]
def waitB (ws : Option (Str × Nat)) (m : Nat) : Bool := match ws with
  | none => false
  | some (_, n) => !decide (n = m)
theorem valV_one (w : Str) (v : V) : valV [((Sum.inr w : Key), v)] (Sum.inr w : Key) = some v := by simp [valV]
def stayF (elders : List Str) (ws : Option (Str × Nat)) (m : Nat) : List Str := elders ++ waitN ws m
/-- how far it is behind `i` turns of `n + 1` -/
def TrAt (ps : List (Str × Str)) (stay : Nat → List Str) (sv row : List Str) (i : Nat) (acc : List Deed) (cur : List Str) : Prop :=
  if i ≤ sv.length then acc ++ (trace ps stay sv (sv.length - i) cur).1 = (trace ps stay sv sv.length row).1 ∧ (trace ps stay sv (sv.length - i) cur).2 = (trace ps stay sv sv.length row).2
  else acc = (trace ps stay sv sv.length row).1 ∧ cur = (trace ps stay sv sv.length row).2
theorem trAt_last {ps : List (Str × Str)} {stay : Nat → List Str} {sv row cur : List Str} {i : Nat} {acc : List Deed} (hi : sv.length - i = 0) (le : i ≤ sv.length) (h : TrAt ps stay sv row i acc cur) : TrAt ps stay sv row (i + 1) (acc ++ (goneO ps (stay (sv.length - i)) cur).map some) (goneR ps (stay (sv.length - i)) cur) := by
  unfold TrAt at h ⊢
  rw [if_pos le] at h
  rw [if_neg (by omega)]
  rw [hi] at h ⊢
  exact h
theorem trAt_step {ps : List (Str × Str)} {stay : Nat → List Str} {sv row cur : List Str} {i m : Nat} {acc : List Deed} (hi : sv.length - i = m + 1) (h : TrAt ps stay sv row i acc cur) : TrAt ps stay sv row (i + 1) (acc ++ (goneO ps (stay (sv.length - i)) cur).map some ++ [none]) (sv.getD m "" :: goneR ps (stay (sv.length - i)) cur) := by
  unfold TrAt at h ⊢
  rw [if_pos (by omega)] at h
  rw [if_pos (by omega), show sv.length - (i + 1) = m by omega]
  rw [hi] at h ⊢
  refine ⟨?_, h.2⟩
  rw [← h.1]
  show _ = acc ++ ((goneO ps (stay (m + 1)) cur).map some ++ none :: _)
  simp
def spTraced (K : PySem.W.Frag) : Sp := fun vs H Q _ => ∃ (a sv r e wd : Addr) (ps : List (Str × Str)) (svd row elders : List Str) (ws : Option (Str × Nat)), vs = [.ref a, .ref sv, .ref r, .ref e, .ref wd] ∧ FrAt H a ps ∧ ps.length ≤ 1000 ∧ Irr ps ∧ RowAt H sv svd ∧ RowAt H r row ∧ ButKeeps K H e elders ∧ H wd = some (.dK (waitsL ws)) ∧ (svd ++ row).Nodup ∧ svd.length + row.length ≤ 60 ∧ elders.length ≤ 60 ∧
  ∀ T u l (ds : List LD) H', Same H H' → H' T = some (.tup [.ref u, .ref l]) → H' u = some (.lst (refsD ds)) → DeedsAt H' ds → ds.map (·.2) = (trace ps (stayF elders ws) svd svd.length row).1.reverse → TupAt H' l (((trace ps (stayF elders ws) svd svd.length row).2.filter fun x => !decide (x ∈ elders)).map V.str) → Q (.ref T) H'
def spLineOf : Sp := fun vs H Q _ => ∃ (sv r : Addr) (svd row : List Str), vs = [.ref sv, .ref r] ∧ RowAt H sv svd ∧ RowAt H r row ∧ svd.length + row.length ≤ 60 ∧
  ∀ t H', Same H H' → TupAt H' t ((svd ++ row).map V.str) → Q (.ref t) H'
/-- they all stand in the line, one behind the other -/
def InLine (line elders : List Str) : Prop := (∀ x ∈ elders, x ∈ line) ∧ elders.Pairwise fun x y => line.idxOf x ≤ line.idxOf y
def spAstray (K : PySem.W.Frag) : Sp := fun vs H Q _ => ∃ (t e : Addr) (line elders : List Str), vs = [.ref t, .ref e] ∧ TupAt H t (line.map V.str) ∧ line.Nodup ∧ line.length ≤ 60 ∧ ButKeeps K H e elders ∧ InLine line elders ∧
  ∀ H', Same H H' → Q .non H'
def spNever (K : PySem.W.Frag) : Sp := fun vs H Q _ => ∃ (a sv r e : Addr) (ps : List (Str × Str)) (svd row elders : List Str), vs = [.ref a, .ref sv, .ref r, .ref e] ∧ FrAt H a ps ∧ ps.length ≤ 1000 ∧ Irr ps ∧ RowAt H sv svd ∧ RowAt H r row ∧ ButKeeps K H e elders ∧ InLine (svd ++ row) elders ∧ (svd ++ row).Nodup ∧ svd.length + row.length ≤ 60 ∧ elders.length ≤ 60 ∧
  ∀ l H', Same H H' → TupAt H' l (((trace ps (stayF elders none) svd svd.length row).2.filter fun x => !decide (x ∈ elders)).map V.str) → Q (.ref l) H'
end Lk
set_option maxRecDepth 100000
set_option maxHeartbeats 4000000
namespace Lk
open PySem PySem.Spec PyProof.Rows L2
/-- y = {k: v for ..}: what is told is stored within the comprehension's frame -/
theorem ps_setDc {X : Cx} {i : Nat} {y : Str} {py : Pos} {kx vx tg iter : Expr} {ifs : List Expr} {scope : Scope} {own : List (Str × Nat)} {pos spos : Pos} {wi : TI} {g : TG} {tt : TT} {tk tv : TE} (hc : X.calm = true) (hN : X.N.Nodup) (hy : X.N[i]? = some y) (hyl : List.lookup y X.env.scope.names = some NameKind.local)
    (hsw : swapsWith (Expr.DictComp kx vx [{ target := tg, iter := iter, ifs := ifs, is_async := 0 }] scope pos) (some (Expr.Name y py)) spos.line X.env = pure true)
    (hi : PI X tg iter wi) (ok : BlkOk X.N X.env.scope scope own)
    (hg : ∀ (s : Shared) (H : Hp) (C : Addr) (cl : List (Str × Addr)) (fp : List Addr), PG (X.blk s H scope (compEnvC scope cl C X.env) fp) tg g)
    (ht : ∀ (s : Shared) (H : Hp) (C : Addr) (cl : List (Str × Addr)) (fp : List Addr), PTs (X.blk s H scope (compEnvC scope cl C X.env) fp) ifs tt)
    (hk : ∀ (s : Shared) (H : Hp) (C : Addr) (cl : List (Str × Addr)) (fp : List Addr), PE (X.blk s H scope (compEnvC scope cl C X.env) fp) kx tk)
    (hv : ∀ (s : Shared) (H : Hp) (C : Addr) (cl : List (Str × Addr)) (fp : List Addr), PE (X.blk s H scope (compEnvC scope cl C X.env) fp) vx tv)
    (hs : ∀ (x : Value), foldedSetIterable iter X.env x = pure x := by intro _; rfl) :
    PS X (Stmt.Assign [Expr.Name y py] (Expr.DictComp kx vx [{ target := tg, iter := iter, ifs := ifs, is_async := 0 }] scope pos) spos) (tAsg (tDc wi g tt tk tv (own.map (·.2))) (gName i)) := by
  refine ⟨fun pins s σ H D I h => ?_⟩
  rw [exec_Assign_Name_used y py _ spos hsw]
  refine wpAny_bind (wpAny_standAt (wpAny_bind ?_))
  refine wpAny_bind (thn (dc_core hc hN I hi ok hg ht hk hv hs h fun L C s' m H' I' q hn f => ?_) fun x s' hq => wpAny_pure (wpAny_pure hq))
  refine wpAny_assign_Name (store_ok2 (v := .ref L) I' hN hy (Or.inl hyl) rfl (fun s2 I2 x => ?_) (Or.inr hyl))
  obtain ⟨a, sb, ha⟩ := x
  obtain ⟨f0, f1, f2, f3, f4, f5⟩ := f
  have haC : C ≠ a := ha.elim (fun z => by rw [z]; exact f1) (fun z e => f4 y a z e.symm)
  exact ⟨m, hn.sameBut sb haC, fun h3 sb3 => ⟨σ.set i (some (.ref L)), H', I2.turned (fun b o hb e => (sb3.2 b hb).trans e) f0 f1 f3 f4 f5, q⟩⟩
theorem sqL_same {K : PySem.W.Frag} {H H' : Hp} {a : Addr} {xs : List V} (s : Same H H') (h : SqL K H a xs) : SqL K H' a xs := h.imp (fun r => r.imp (s _ _) (fun ⟨o, e⟩ => ⟨o, s _ _ e⟩)) id
theorem sqT_same {K : PySem.W.Frag} {H H' : Hp} {a : Addr} {xs : List V} (s : Same H H') (h : SqT K H a xs) : SqT K H' a xs := h.imp (fun r => r.imp (s _ _) (fun ⟨o, e⟩ => ⟨o, s _ _ e⟩)) id
theorem line_next {line elders : List Str} {i : Nat} {x : Str} (hx : elders[i]? = some x) (h : elders.Pairwise fun x y => line.idxOf x ≤ line.idxOf y) : ∀ y ∈ elders.drop (i + 1), line.idxOf x ≤ line.idxOf y := by
  rw [split_at hx] at h
  exact (List.pairwise_cons.mp (List.pairwise_append.mp h).2.1).1
theorem at_drop {xs : List Str} {i : Nat} {x : Str} (hx : xs[i]? = some x) : x ∈ xs.drop i := by
  rw [List.mem_iff_getElem?]
  exact ⟨0, by rw [List.getElem?_drop]; exact hx⟩
/-- who is left that is no elder, where one comes at that moment alone -/
def leftAt (ps : List (Str × Str)) (elders svd row : List Str) (who : Str) (m : Nat) : List Str := (trace ps (stayF elders (some (who, m))) svd svd.length row).2.filter fun x => !decide (x ∈ elders)
def timesL (ps : List (Str × Str)) (elders svd row : List Str) (who : Str) (n : Nat) : List Nat := (List.range n).filter fun m => decide (leftAt ps elders svd row who m = [])
def intsV (ns : List Nat) : List V := ns.map fun n => V.int (n : Nat)
theorem timesL_succ (ps : List (Str × Str)) (elders svd row : List Str) (who : Str) (n : Nat) : timesL ps elders svd row who (n + 1) = timesL ps elders svd row who n ++ if leftAt ps elders svd row who n = [] then [n] else [] := by
  unfold timesL
  rw [List.range_succ, List.filter_append, List.filter_cons]
  by_cases c : leftAt ps elders svd row who n = []
  · rw [if_pos c, if_pos (decide_eq_true c)]
    rfl
  · rw [if_neg c, if_neg (by simpa using c)]
    rfl
def spTimes (K : PySem.W.Frag) : Sp := fun vs H Q _ => ∃ (a sv r e : Addr) (who : Str) (ps : List (Str × Str)) (svd row elders : List Str), vs = [.ref a, .ref sv, .ref r, .str who, .ref e] ∧ FrAt H a ps ∧ ps.length ≤ 1000 ∧ Irr ps ∧ RowAt H sv svd ∧ RowAt H r row ∧ ButKeeps K H e elders ∧ InLine (svd ++ row) elders ∧ (svd ++ row).Nodup ∧ svd.length + row.length ≤ 60 ∧ elders.length ≤ 60 ∧
  ∀ l H', Same H H' → H l = none → H' l = some (.lst (intsV (timesL ps elders svd row who (svd.length + 1)))) → Q (.ref l) H'
end Lk
set_option maxRecDepth 100000
set_option maxHeartbeats 4000000
namespace Lk
open PySem PySem.Spec PyProof.Rows L2
/-! ### deeds that can be done -/
/-- how many stand there behind the deeds, if nobody is served of a bare row -/
def fitN : Nat → List Deed → Option Nat
  | n, [] => some n
  | n, none :: ds => if n = 0 then none else fitN (n - 1) ds
  | n, some _ :: ds => fitN (n + 1) ds
theorem fitN_app : ∀ (ds es : List Deed) (n : Nat), fitN n (ds ++ es) = match fitN n ds with | none => none | some k => fitN k es
  | [], es, n => rfl
  | none :: ds, es, n => by
    show (if n = 0 then none else fitN (n - 1) (ds ++ es)) = match (if n = 0 then none else fitN (n - 1) ds) with | none => none | some k => fitN k es
    by_cases c : n = 0
    · rw [if_pos c, if_pos c]
    · rw [if_neg c, if_neg c]
      exact fitN_app ds es (n - 1)
  | some x :: ds, es, n => fitN_app ds es (n + 1)
theorem go_fit {ps : List (Str × Str)} : ∀ (ds : List Deed) {st gn met : List Str} {k : Nat}, fitN st.length ds = some k → (comers ds).Nodup → (∀ x ∈ comers ds, x ∉ met) → ∃ st' gn', goD ps ds (st, gn) met = some (st', gn') ∧ st'.length = k
  | [], st, gn, met, k, h, _, _ => ⟨st, gn, rfl, Option.some.inj h⟩
  | none :: ds, st, gn, met, k, h, nd, no => by
    cases st with
    | nil =>
      have h' : (none : Option Nat) = some k := h
      cases h'
    | cons y st1 =>
      have h' : fitN st1.length ds = some k := h
      obtain ⟨st', gn', g, l⟩ := go_fit ds (gn := gn ++ [y]) (met := met) h' nd no
      refine ⟨st', gn', ?_, l⟩
      show goD ps ds (st1, gn ++ [y]) (met ++ []) = _
      rw [List.append_nil]
      exact g
  | some x :: ds, st, gn, met, k, h, nd, no => by
    have h' : fitN (st.length + 1) ds = some k := h
    have nd' : (x :: comers ds).Nodup := nd
    have nx : x ∉ met := no x (List.mem_cons_self ..)
    have h2 : fitN (comeTo ps st x).length ds = some k := by rw [come_len]; exact h'
    obtain ⟨st', gn', g, l⟩ := go_fit ds (gn := gn) (met := met ++ [x]) h2 (List.nodup_cons.mp nd').2 (fun y hy z => by
      rcases List.mem_append.mp z with u | u
      · exact no y (List.mem_cons_of_mem _ hy) u
      · rw [List.mem_singleton.mp u] at hy
        exact (List.nodup_cons.mp nd').1 hy)
    refine ⟨st', gn', ?_, l⟩
    show (match (if x ∈ met then none else some (comeTo ps st x, gn)) with | none => none | some s2 => goD ps ds s2 (met ++ [x])) = _
    rw [if_neg nx]
    exact g
theorem fitN_le : ∀ (ds : List Deed) {k n : Nat}, fitN k ds = some n → n ≤ k + ds.length
  | [], k, n, h => by
    have : k = n := Option.some.inj h
    omega
  | none :: ds, k, n, h => by
    have h' : (if k = 0 then none else fitN (k - 1) ds) = some n := h
    by_cases c : k = 0
    · rw [if_pos c] at h'
      cases h'
    · rw [if_neg c] at h'
      have := fitN_le ds h'
      rw [List.length_cons]
      omega
  | some x :: ds, k, n, h => by
    have := fitN_le (k := k + 1) ds h
    rw [List.length_cons]
    omega
theorem fitN_len : ∀ (ds : List Deed) {k n : Nat}, fitN k ds = some n → ds.length + n = k + 2 * (comers ds).length
  | [], k, n, h => by
    have : k = n := Option.some.inj h
    show 0 + n = k + 2 * 0
    omega
  | none :: ds, k, n, h => by
    have h' : (if k = 0 then none else fitN (k - 1) ds) = some n := h
    by_cases c : k = 0
    · rw [if_pos c] at h'
      cases h'
    · rw [if_neg c] at h'
      have := fitN_len ds h'
      rw [List.length_cons]
      show ds.length + 1 + n = k + 2 * (comers ds).length
      omega
  | some x :: ds, k, n, h => by
    have := fitN_len (k := k + 1) ds h
    rw [List.length_cons]
    show ds.length + 1 + n = k + 2 * ((comers ds).length + 1)
    omega
/-! ### ways, one behind the other -/
theorem Way.shift {ps : List (Str × Str)} {stay : Nat → List Str} {sv : List Str} {m0 m c : Nat} {row fin : List Str} {ds : List Deed} (h : Way ps (fun k => stay (k + c)) (sv.drop c) m0 m row ds fin) : Way ps stay sv (m0 + c) (m + c) row ds fin := by
  induction h with
  | done _ => exact .done _
  | go x h hs t ih => exact .go x h hs ih
  | @back m row ds fin y h t ih =>
    rw [show m + 1 + c = (m + c) + 1 by omega]
    refine .back y ?_ ih
    rw [List.getElem?_drop] at h
    rw [show m + c = c + m by omega]
    exact h
theorem Way.pre {ps : List (Str × Str)} {stay : Nat → List Str} {sv more : List Str} {m0 m : Nat} {row fin : List Str} {ds : List Deed} (h : Way ps stay sv m0 m row ds fin) : Way ps stay (sv ++ more) m0 m row ds fin := by
  induction h with
  | done _ => exact .done _
  | go x h hs t ih => exact .go x h hs ih
  | @back m row ds fin y h t ih =>
    refine .back y ?_ ih
    have hl : m < sv.length := (List.getElem?_eq_some_iff.mp h).1
    rw [List.getElem?_append_left hl]
    exact h
def spStory : Sp := fun vs H Q _ => ∃ (b a l : Addr) (ps : List (Str × Str)) (pool : List Str) (far most : Nat), vs = [.ref b, .ref a, .ref l, .int (far : Nat), .int (most : Nat)] ∧ IsBox H b ∧ PalsAt H a ps ∧ PalsOk ps ∧ H l = some (.lst (pool.map V.str)) ∧ Goods pool ∧ pool.Nodup ∧ 0 < far ∧ far ≤ 80 ∧ pool.length ≤ 40 ∧
  ∀ (T o p g t : Addr) (olds : List Str) (ds : List LD) (st gn : List Str) (H' : Hp), Oth b H H' → IsBox H' b → H' T = some (.tup [.ref o, .ref p, .ref g, .ref t]) → TupAt H' o (olds.map V.str) → H p = none → H' p = some (.lst (refsD ds)) → DeedsAt H' ds → (olds ++ comers (ds.map (·.2))).Perm pool → olds.length ≤ min most (max 1 (pool.length / 2)) → olds.length + ds.length ≤ 80 → goD ps (ds.map (·.2)) (olds, []) olds = some (st, gn) → TupAt H' g (gn.map V.str) → TupAt H' t (st.map V.str) → Q (.ref T) H'
end Lk
set_option maxRecDepth 100000
set_option maxHeartbeats 4000000
namespace Lk
open PySem PySem.Spec PyProof.Rows L2
/-! ### set(ns), ns a list of ints, none of them twice -/
section
variable {P : Program} {w : World} {A : Around} {E : Value → Shared → Prop} {s : Shared}
end
section
variable {X : Cx}
end
end Lk
set_option maxRecDepth 100000
set_option maxHeartbeats 4000000
namespace Lk
open PySem PySem.Spec PyProof.Rows L2
/-! ### a def whose last parameter, by its name alone, has a default: a bare tuple -/
structure CalK (P : Program) (w : World) (K : PySem.W.Frag) (mg : Str → Option Value) (base : Heap) (k : Nat) (x : Str) (ps : List Str) (n : Nat) (kw : Str) (sp : Sp) (E : Addr) : Prop where
  ex : ∃ f fd, FnOk P w K mg base CX0 k f fd ps sp ∧ mg x = some (.ref f) ∧ PySem.W.keepIn K (.ref f) = true ∧ KBn K fd ps n [kw] (fun us ws => us ++ ws) (fun vs zs => vs ++ zs) ∧ ∃ ds, Vals [V.ref E] ds ∧ Binds K fd ps ds
  emp : ∃ (o : Obj) (n : Nat), K.lookup E = some o ∧ o.cls = .type "tuple" ∧ o.data = .seq #[] n
theorem CalK.but {P : Program} {w : World} {K : PySem.W.Frag} {mg : Str → Option Value} {base : Heap} {k n : Nat} {x kw : Str} {ps : List Str} {sp : Sp} {E : Addr} (C : CalK P w K mg base k x ps n kw sp E) (H : Hp) : ButKeeps K H E [] := by
  obtain ⟨o, n, h1, h2, h3⟩ := C.emp
  exact fun _ _ => .inr (.inr ⟨o, #[], n, h1, h2, h3, Nat.zero_le _, .nil⟩)
section
variable {X : Cx} {k m n : Nat} {x kw : Str} {ps : List Str} {sp : Sp} {D : Addr} {p pos : Pos} {e : Expr} {es : List Expr} {t tk : TA} {kws : List Keyword}
theorem pe_calk (C : CalK X.prog X.w X.K X.mg X.base k x ps n kw sp D) (hr : Room m X.A) (ha : PA X (e :: es) t) (hkw : PK X kws tk) (hle : k ≤ m := by first | decide | omega) (hg : Gl X x := by rfl)
    (hall : (backToKw pos (keywordEach kws X.env)).all (·.1.isSome) = true := by rfl) (hks : (backToKw pos (keywordEach kws X.env)).filterMap (·.1) = [kw] := by rfl)
    (hdb : (x == ("__debug__" : Str)) = false := by decide) (he : starEach (e :: es) X.env = (false, eval e X.env) :: starEach es X.env := by rfl)
    (hpl : ((backTo pos (starEach (e :: es) X.env)).any (·.1) || (backToKw pos (keywordEach kws X.env)).any (·.1.isNone)) = false := by rfl) :
    PE X (.Call (.Name x p) (e :: es) kws pos) (tCallN n 1 sp (fun vs zs => vs ++ zs) E0 t tk) := by
  obtain ⟨f, fd, F, hm, hk, b1, _⟩ := C.ex
  exact pe_callN F (hr.mono hle) hg hm hk b1 pass0 ha hkw (hall := hall) (hks := hks) (hdb := hdb) (he := he) (hpl := hpl)
end
theorem calk_mk {P : Program} {w : World} {K : PySem.W.Frag} {mg : Str → Option Value} {base : Heap} {k : Nat} {x kw : Str} {ps : List Str} {m : Nat} {st : Stmt} {sp : Sp} {f D E : Addr} {oc : Value} {od an ed : Option Addr} {osl es : Array (Option Value)} {doc pm cdv ct : Value} {en : Nat}
    (l : K.lookup f = some ⟨oc, od, .func (PySem.W.fnOf x x (defArgs st) (defBody st) (defScope st) .none (.ref D) doc pm an cdv ct), osl⟩) (c : PySem.W.codeIn K cdv x = true) (kp : PySem.W.keepIn K (.ref f) = true) (n : PySem.W.nsIn K D kw = some (some (.ref E)))
    (e : K.lookup E = some ⟨.type "tuple", ed, .seq #[] en, es⟩) (hm : mg x = some (.ref f)) (ok : FnOk P w K mg base CX0 k f (PySem.W.fnOf x x (defArgs st) (defBody st) (defScope st) .none (.ref D) doc pm an cdv ct) ps sp)
    (hl : m + 1 = ps.length)
    (hb1 : ∀ (kV doc pm : Value) (an : Option Addr) (cdv ct : Value) (us ws : List Value), us.length = m → ws.length = 1 → bindArgs (PySem.W.fnOf x x (defArgs st) (defBody st) (defScope st) .none kV doc pm an cdv ct) ⟨us, [kw].zip ws⟩ = pure (ps.zip (us ++ ws)))
    (hb3 : ∀ (D : Addr) (doc pm : Value) (an : Option Addr) (cdv ct : Value) (us ks : List Value), us.length = m → ks.length = 1 → KwChain D ([kw].zip ks) (bindArgs (PySem.W.fnOf x x (defArgs st) (defBody st) (defScope st) .none (.ref D) doc pm an cdv ct) ⟨us, []⟩) (ps.zip (us ++ ks))) :
    CalK P w K mg base k x ps m kw sp E := by
  have FD : FunD K x x (defArgs st) (defBody st) (defScope st) [] [(kw, V.ref E)] f (PySem.W.fnOf x x (defArgs st) (defBody st) (defScope st) .none (.ref D) doc pm an cdv ct) :=
    ⟨⟨oc, od, .none, .ref D, doc, pm, an, cdv, ct, osl, rfl, l, c, .inl ⟨rfl, rfl⟩, .inr ⟨D, rfl, fun q hq => by rw [List.mem_singleton.mp hq]; exact ⟨_, n, rfl⟩⟩⟩, kp⟩
  refine ⟨⟨f, _, ok, hm, kp, ⟨fun s us ws _ h1 h2 => .of_eq (hb1 _ _ _ _ _ _ us ws h1 h2), fun r1 r2 => r1.append r2⟩, ?_⟩, ⟨_, en, e, rfl, rfl⟩⟩
  exact FD.binds0 (ps := ps) m (fun z => nomatch z) hl fun D doc pm an cdv ct us ks h1 h2 => hb3 D doc pm an cdv ct us ks h1 h2
end Lk
set_option maxRecDepth 100000
set_option maxHeartbeats 4000000
namespace Lk
open PySem PySem.Spec PyProof.Rows L2
/-! ### a story in two parts -/
section
variable {ps : List (Str × Str)}
theorem stepD_none {st gn met : List Str} {s2 : List Str × List Str} (h : stepD ps (st, gn) met none = some s2) : ∃ y st1, st = y :: st1 ∧ s2 = (st1, gn ++ [y]) := by
  have e2 : (if st = [] then none else some (st.drop 1, gn ++ st.take 1)) = some s2 := h
  cases st with
  | nil => rw [if_pos rfl] at e2; cases e2
  | cons y st1 =>
    rw [if_neg (by simp)] at e2
    exact ⟨y, st1, rfl, (Option.some.inj e2).symm⟩
theorem stepD_some {st gn met : List Str} {x : Str} {s2 : List Str × List Str} (h : stepD ps (st, gn) met (some x) = some s2) : x ∉ met ∧ s2 = (comeTo ps st x, gn) := by
  have e2 : (if x ∈ met then none else some (comeTo ps st x, gn)) = some s2 := h
  by_cases c : x ∈ met
  · rw [if_pos c] at e2
    cases e2
  · rw [if_neg c] at e2
    exact ⟨c, (Option.some.inj e2).symm⟩
theorem goD_cons {d : Deed} {ds : List Deed} {st st' : List Str × List Str} {met : List Str} (h : goD ps (d :: ds) st met = some st') : ∃ s2, stepD ps st met d = some s2 ∧ goD ps ds s2 (met ++ d.toList) = some st' := by
  have h' : (match stepD ps st met d with | none => none | some s2 => goD ps ds s2 (met ++ d.toList)) = some st' := h
  cases e : stepD ps st met d with
  | none => rw [e] at h'; cases h'
  | some s2 =>
    rw [e] at h'
    exact ⟨s2, rfl, h'⟩
theorem come_sub (ps : List (Str × Str)) (st : List Str) (x : Str) : st.Sublist (comeTo ps st x) := by
  unfold comeTo
  rw [List.append_assoc]
  have h : (st.take (spotOf ps st x) ++ st.drop (spotOf ps st x)).Sublist (st.take (spotOf ps st x) ++ ([x] ++ st.drop (spotOf ps st x))) := List.Sublist.append_left (List.sublist_cons_self _ _) _
  rw [List.take_append_drop] at h
  exact h
/-- the line keeps its order -/
theorem go_sub : ∀ (ds : List Deed) {st gn met st' gn' : List Str}, goD ps ds (st, gn) met = some (st', gn') → (gn ++ st).Sublist (gn' ++ st')
  | [], st, gn, met, st', gn', h => by
    have e : (st, gn) = (st', gn') := Option.some.inj h
    cases e
    exact List.Sublist.refl _
  | d :: ds, st, gn, met, st', gn', h => by
    obtain ⟨s2, h1, h2⟩ := goD_cons h
    cases d with
    | none =>
      obtain ⟨y, st1, rfl, rfl⟩ := stepD_none h1
      have := go_sub ds h2
      rw [List.append_assoc] at this
      exact this
    | some x =>
      obtain ⟨nx, rfl⟩ := stepD_some h1
      exact (List.Sublist.append_left (come_sub ps st x) gn).trans (go_sub ds h2)
theorem inLine_self {line : List Str} (nd : line.Nodup) : line.Pairwise fun x y => line.idxOf x ≤ line.idxOf y := by
  rw [List.pairwise_iff_getElem]
  intro i j hi hj hij
  rw [idx_at nd (List.getElem?_eq_getElem hi), idx_at nd (List.getElem?_eq_getElem hj)]
  omega
theorem inLine_sub {line elders : List Str} (nd : line.Nodup) (h : elders.Sublist line) : InLine line elders := ⟨fun _ hx => h.subset hx, (inLine_self nd).sublist h⟩
theorem sub_filter : ∀ {line a : List Str}, a.Sublist line → line.Nodup → a = line.filter fun x => decide (x ∈ a)
  | _, _, .slnil, _ => rfl
  | _, a, .cons (l₂ := l) x h, nd => by
    have nx : x ∉ a := fun z => (List.nodup_cons.mp nd).1 (h.subset z)
    rw [List.filter_cons]
    simp only [nx, decide_false]
    exact sub_filter h (List.nodup_cons.mp nd).2
  | _, _, .cons₂ (l₁ := a) (l₂ := l) x h, nd => by
    rw [List.filter_cons]
    simp only [List.mem_cons, true_or, decide_true, if_true]
    refine congrArg (x :: ·) ?_
    have e := sub_filter h (List.nodup_cons.mp nd).2
    refine e.trans (List.filter_congr fun y hy => ?_)
    have ny : ¬ y = x := fun z => (List.nodup_cons.mp nd).1 (z ▸ hy)
    simp [ny]
theorem sub_eq {line a b : List Str} (nd : line.Nodup) (ha : a.Sublist line) (hb : b.Sublist line) (h : ∀ x, x ∈ a ↔ x ∈ b) : a = b := by
  rw [sub_filter ha nd, sub_filter hb nd]
  exact List.filter_congr fun y _ => decide_eq_decide.mpr (h y)
theorem Way.subl {stay : Nat → List Str} {sv : List Str} {m0 m : Nat} {row fin : List Str} {ds : List Deed} (h : Way ps stay sv m0 m row ds fin) : fin.Sublist (sv.take m ++ row) := by
  induction h with
  | done _ => exact List.sublist_append_right _ _
  | go x h hs t ih => exact ih.trans (List.Sublist.append_left List.filter_sublist _)
  | back y h t ih =>
    rw [line_back h]
    exact ih
theorem Way.keep {stay : Nat → List Str} {sv : List Str} {m : Nat} {row fin : List Str} {ds : List Deed} {x : Str} (h : Way ps stay sv 0 m row ds fin) (hs : ∀ k, x ∈ stay k) : x ∈ sv.take m ++ row → x ∈ fin := by
  induction h with
  | done _ => exact fun z => by simpa using z
  | go y h hy t ih =>
    refine fun z => ih ?_
    rcases List.mem_append.mp z with u | u
    · exact List.mem_append_left _ u
    · refine List.mem_append_right _ (List.mem_filter.mpr ⟨u, ?_⟩)
      have : ¬ x = y := fun e => hy (e ▸ hs _)
      simp [this]
  | back y h t ih =>
    rw [line_back h]
    exact ih
/-! ### when somebody came -/
/-- a story's beginning and the rest of it -/
structure Parts (ps : List (Str × Str)) (ds1 ds2 : List Deed) (here sb st e : List Str) : Prop where
  g1 : goD ps ds1 ([], []) [] = some (here, sb)
  g2 : goD ps ds2 (here, []) (comers ds1) = some (st, e)
  nd : (comers ds1 ++ comers ds2).Nodup
namespace Parts
variable {ds1 ds2 : List Deed} {here sb st e : List Str}
theorem p1 (h : Parts ps ds1 ds2 here sb st e) : (sb ++ here).Perm (comers ds1) := by
  have := go_perm _ _ _ _ h.g1
  simpa using this
theorem p2 (h : Parts ps ds1 ds2 here sb st e) : (e ++ st).Perm (comers ds2 ++ here) := by
  have := go_perm _ _ _ _ h.g2
  simpa using this
theorem n1 (h : Parts ps ds1 ds2 here sb st e) : (sb ++ here).Nodup := h.p1.nodup_iff.mpr (List.nodup_append.mp h.nd).1
theorem dj (h : Parts ps ds1 ds2 here sb st e) : ∀ y ∈ comers ds2, y ∉ sb ++ here := fun y hy z => (List.nodup_append.mp h.nd).2.2 y (h.p1.mem_iff.mp z) y hy rfl
theorem n2 (h : Parts ps ds1 ds2 here sb st e) : (e ++ st).Nodup := h.p2.nodup_iff.mpr (List.nodup_append.mpr ⟨(List.nodup_append.mp h.nd).2.1, (List.nodup_append.mp h.n1).2.1, fun x hx y hy e => h.dj x hx (by rw [e]; exact List.mem_append_right _ hy)⟩)
theorem n3 (h : Parts ps ds1 ds2 here sb st e) : ((sb ++ e) ++ st).Nodup := by
  rw [List.append_assoc]
  refine List.nodup_append.mpr ⟨(List.nodup_append.mp h.n1).1, h.n2, fun x hx y hy q => ?_⟩
  subst q
  rcases List.mem_append.mp (h.p2.mem_iff.mp hy) with z | z
  · exact h.dj x z (List.mem_append_left _ hx)
  · exact (List.nodup_append.mp h.n1).2.2 x hx x z rfl
theorem w1 (h : Parts ps ds1 ds2 here sb st e) {stay : Nat → List Str} (hf : Free stay 0 ds1) : Way ps stay sb 0 sb.length here ds1.reverse [] := go_way ds1 h.g1 (fun _ z => nomatch z) List.nodup_nil hf ⟨[], (List.append_nil _).symm⟩
theorem w2 (h : Parts ps ds1 ds2 here sb st e) {stay : Nat → List Str} (hf : Free stay 0 ds2) : Way ps stay e 0 e.length st ds2.reverse here :=
  go_way ds2 h.g2 (fun x z => h.p1.mem_iff.mp (List.mem_append_right _ (by simpa using z))) (by simpa using (List.nodup_append.mp h.n1).2.1) hf ⟨[], (List.append_nil _).symm⟩
theorem far (h : Parts ps ds1 ds2 here sb st e) {stay : Nat → List Str} {d : List Deed} {m : List Str} (hw : Way ps (fun k => stay (k + sb.length)) e 0 e.length st d m) : Way ps stay (sb ++ e) sb.length (sb ++ e).length st d m := by
  have e1 : (sb ++ e).drop sb.length = e := by simp
  have := Way.shift (ps := ps) (stay := stay) (sv := sb ++ e) (m0 := 0) (m := e.length) (c := sb.length) (row := st) (fin := m) (ds := d) (by rw [e1]; exact hw)
  rw [Nat.zero_add, show e.length + sb.length = (sb ++ e).length by rw [List.length_append]; omega] at this
  exact this
theorem line (h : Parts ps ds1 ds2 here sb st e) : InLine (e ++ st) here := inLine_sub h.n2 (by simpa using go_sub ds2 h.g2)
end Parts
end

/-! ### comprehensions that leave some out -/
section
variable {J : It} {n : Nat} {G : Hp → Prop} {Y : Nat → Hp → V → Hp → Prop} {g : TG} {tt : TT} {te : TE} {vs : List Nat} {σ : L2.St} {H1 : Hp} {D : Addr} {Qd : Hp → Prop}
theorem lc_pick {α : Type} (w : Walk J n G Y) (xs : List α) (f : α → V) (p : α → Bool) (hl : xs.length = n) (hn : n ≤ 1000) (hD : H1 D = none) (hG : ∀ H', Same H1 H' → G H')
    (hs : ∀ (i : Nat) (x : α) (v : V) (H H' : Hp) (k : V → Hp → Prop) (k0 : Hp → Prop), xs[i]? = some x → Same H1 H → Y i H v H' → (p x = true → ∀ H4, Same H H4 → k (f x) H4) → (p x = false → ∀ H4, Same H H4 → k0 H4) →
      g v (wipe σ vs) H' fun σ2 H2 => wipe σ2 vs = wipe σ vs ∧ tt σ2 H2 fun b H3 => if b = true then te σ2 H3 k else k0 H3)
    (hd : ∀ H, Same H1 H → H D = some (.lst ((xs.filter p).map f)) → Qd H) :
    ∃ W : Nat → Nat → Hp → Prop, (∃ m, W 0 m (upd H1 D (.lst []))) ∧ ∀ i m H, W i m H →
      (J.stop i H ∧ Qd H) ∨ (J.go i H ∧ ∃ Nx : Hp → Prop, (∀ H', Nx H' → ∃ m', m' < m ∧ W (i + 1) m' H') ∧ ∀ x H', J.yld i H x H' → g x (wipe σ vs) H' fun σ2 H2 => wipe σ2 vs = wipe σ vs ∧ tt σ2 H2 fun b H3 =>
        if b = true then te σ2 H3 fun y H4 => ∃ acc, H4 D = some (.lst acc) ∧ acc.length < sizeLine ∧ Nx (upd H4 D (.lst (acc ++ [y]))) else Nx H3) := by
  refine lc_it w (fun i H' => Same H1 H' ∧ H' D = some (.lst (((xs.take i).filter p).map f))) ⟨same_upd hD, upd_same⟩ (fun i H' _ h => hG H' h.1) ?_ ?_
  · rintro i v H H' hi ⟨s1, d1⟩ y
    obtain ⟨x, hx⟩ : ∃ x, xs[i]? = some x := ⟨xs[i]'(by omega), List.getElem?_eq_getElem (by omega)⟩
    have ft : (xs.take (i + 1)).filter p = (xs.take i).filter p ++ if p x = true then [x] else [] := by
      rw [List.take_add_one, hx, List.filter_append]
      show _ ++ List.filter p [x] = _
      rw [List.filter_cons, List.filter_nil]
    refine hs i x v H H' _ _ hx s1 y (fun c H4 s4 => ?_) (fun c H4 s4 => ?_)
    · rw [if_pos c] at ft
      refine ⟨_, s4 _ _ d1, ?_, fun b o e => ?_, ?_⟩
      · rw [List.length_map]
        exact small1000 (Nat.le_trans (List.length_filter_le _ _) (by rw [List.length_take]; omega))
      · rw [upd_ne (ne_of_none e hD)]
        exact s4 _ _ (s1 _ _ e)
      · rw [upd_same, ft, List.map_append]
        rfl
    · rw [if_neg (by rw [c]; exact Bool.false_ne_true), List.append_nil] at ft
      exact ⟨s1.trans s4, by rw [ft]; exact s4 _ _ d1⟩
  · rintro H ⟨s1, d1⟩
    rw [List.take_of_length_le (by omega)] at d1
    exact hd H s1 d1
end
/-! ### deeds as data -/
def encD (d : Deed) : PyData := .tuple ((deedL d).map .str)
def GoodD (ds : List LD) : Prop := ∀ q ∈ ds, ∀ x, q.2 = some x → Good x
theorem good_serve : Good "serve" := by show PyData.strOk _ = true; decide +kernel
theorem good_come : Good "come" := by show PyData.strOk _ = true; decide +kernel
theorem goods_serve : Goods ["serve"] := fun x hx => by rw [List.mem_singleton.mp hx]; exact good_serve
theorem goods_come {x : Str} (h : Good x) : Goods ["come", x] := goods2 good_come h
theorem goods_deed {d : Deed} (h : ∀ x, d = some x → Good x) : Goods (deedL d) := by
  cases d with
  | none => exact goods_serve
  | some x => exact goods_come (h x rfl)
theorem dp_deeds {K : PySem.W.Frag} {H : Hp} : ∀ {ds : List LD}, DeedsAt H ds → DpAll K H (refsD ds) (ds.map fun q => encD q.2)
  | [], _ => .nil
  | q :: ds, h => .cons (.tup (h q List.mem_cons_self).sq (dp_strs _)) (dp_deeds (ds := ds) fun c hc => h c (List.mem_cons_of_mem _ hc))
theorem lay_deeds : ∀ {ds : List LD}, GoodD ds → PyData.canLayAll0 (ds.map fun q => encD q.2) = true
  | [], _ => by simp [PyData.canLayAll0]
  | q :: ds, h => by
    have h1 := lay_strs (goods_deed (h q List.mem_cons_self))
    have h2 := lay_deeds (ds := ds) fun c hc => h c (List.mem_cons_of_mem _ hc)
    rw [List.map_cons, PyData.canLayAll0, h2, Bool.and_true]
    unfold encD
    rw [PyData.canLay0]
    exact h1
/-! ### lists of whole numbers -/
theorem eqv_ints : ∀ xs ys : List Int, PyData.eqvAll (xs.map .int) (ys.map .int) = decide (xs = ys)
  | [], [] => by simp [PyData.eqvAll]
  | [], _ :: _ => by simp [PyData.eqvAll]
  | _ :: _, [] => by simp [PyData.eqvAll]
  | x :: xs, y :: ys => by
    rw [List.map_cons, List.map_cons, PyData.eqvAll, eqv_ints xs ys]
    by_cases h : x = y
    · subst h
      simp [PyData.eqv]
    · simp [PyData.eqv, h]
theorem lay_ints : ∀ xs : List Int, PyData.canLayAll0 (xs.map .int) = true
  | [] => by simp [PyData.canLayAll0]
  | x :: xs => by simp [PyData.canLayAll0, PyData.canLay0, lay_ints xs]
theorem dep_ints : ∀ xs : List Int, PyData.depthAll (xs.map .int) = 0
  | [] => by simp [PyData.depthAll]
  | x :: xs => by simp [PyData.depthAll, PyData.depth, dep_ints xs]
theorem sh_ints (xs : List Int) : SeqAt.shaped (.list (xs.map .int)) = true := by
  show (PyData.canLay0 (.list (xs.map .int)) && decide (PyData.depth (.list (xs.map .int)) ≤ 64)) = true
  simp [PyData.canLay0, PyData.depth, lay_ints, dep_ints]
theorem dp_ints {K : PySem.W.Frag} {H : Hp} : ∀ xs : List Int, DpAll K H (xs.map V.int) (xs.map .int)
  | [] => .nil
  | x :: xs => .cons (.int x) (dp_ints xs)
section
variable {X : Cx}
def rNeI : R2 := fun x y H Q => ∃ (a b : Addr) (xs ys : List Int), x = .ref a ∧ y = .ref b ∧ H a = some (.lst (xs.map V.int)) ∧ H b = some (.lst (ys.map V.int)) ∧ Q (.bl (!decide (xs = ys))) H
theorem op_neI (hu : X.A.units + 64 < cLine) : OpR X (compareOp .NotEq) rNeI := by
  intro pins s σ H x y v u Q I rx ry h
  obtain ⟨a, b, xs, ys, rfl, rfl, ha, hb, q⟩ := h
  refine op_neD hu pins s σ H _ _ v u Q I rx ry ⟨_, _, .lst (.inl (.inl ha)) (dp_ints xs), .lst (.inl (.inl hb)) (dp_ints ys), sh_ints xs, sh_ints ys, ?_⟩
  have e : PyData.eqv (.list (xs.map .int)) (.list (ys.map .int)) = decide (xs = ys) := by
    rw [PyData.eqv, eqv_ints]
  rw [e]
  exact q
end
def natI (ns : List Nat) : List Int := ns.map fun n => ((n : Nat) : Int)
theorem intsV_natI (ns : List Nat) : intsV ns = (natI ns).map V.int := by
  unfold intsV natI
  rw [List.map_map]
  rfl
end Lk
set_option maxRecDepth 100000
set_option maxHeartbeats 4000000
namespace Lk
open PySem PySem.Spec PyProof.Rows L2

/-! ### behind whom one came -/
end Lk
set_option maxRecDepth 100000
set_option maxHeartbeats 4000000
namespace Lk
open PySem PySem.Spec PyProof.Rows L2

/-! ### lists of lists -/
abbrev LA := Addr × List Str
def ListsAt (H : Hp) (ls : List LA) : Prop := ∀ q ∈ ls, H q.1 = some (.lst (q.2.map V.str))
theorem ListsAt.same {H H' : Hp} {ls : List LA} (s : Same H H') (h : ListsAt H ls) : ListsAt H' ls := fun q hq => s _ _ (h q hq)
theorem ListsAt.app {H : Hp} {ls ms : List LA} (h : ListsAt H ls) (h' : ListsAt H ms) : ListsAt H (ls ++ ms) := fun q hq => (List.mem_append.mp hq).elim (h q) (h' q)
end Lk
set_option maxRecDepth 100000
set_option maxHeartbeats 4000000
namespace Lk
open PySem PySem.Spec PyProof.Rows L2

/-! ### small things that can be written -/
structure Fit (n w : Nat) (d : PyData) : Prop where
  sh : d.showable = true
  nd : d.hasDict = false
  dp : d.depth ≤ n
  lv : d.leavesShort 13 = true
  wt : d.weight ≤ w
theorem Fit.mono {n w n' w' : Nat} {d : PyData} (h : Fit n w d) (h1 : n ≤ n') (h2 : w ≤ w') : Fit n' w' d := ⟨h.sh, h.nd, Nat.le_trans h.dp h1, h.lv, Nat.le_trans h.wt h2⟩
theorem Fit.fits {n w : Nat} {d : PyData} (h : Fit n w d) (hw : w ≤ 1048576) : d.shown.length ≤ sizeLine := PyData.shown_fits (B := 13) (by decide) (by decide) h.lv (Nat.le_trans h.wt (Nat.le_trans hw (by decide)))
theorem log2_40 {n : Nat} (h : n < 10 ^ 12) : n.log2 < 40 := by
  by_cases z : n = 0
  · subst z
    decide
  · exact (Nat.log2_lt z).mpr (Nat.lt_of_lt_of_le h (by decide))
theorem fit_int {i : Int} (h : i.natAbs < 10 ^ 12) : Fit 0 40 (.int i) := by
  have l := log2_40 h
  refine ⟨?_, by simp only [PyData.hasDict], by simp only [PyData.depth, Nat.le_refl], ?_, ?_⟩
  · simp only [PyData.showable, decide_eq_true_eq]
    omega
  · simp only [PyData.leavesShort, decide_eq_true_eq]
    exact PyData.shown_int_le h
  · simp only [PyData.weight]
    split <;> omega
theorem fit_str {x : Str} {m : Nat} (h : Good x) (hm : x.length ≤ m) : Fit 0 m (.str x) := by
  refine ⟨by simp only [PyData.showable], by simp only [PyData.hasDict], by simp only [PyData.depth, Nat.le_refl], ?_, by simp only [PyData.weight]; exact hm⟩
  simp only [PyData.leavesShort, List.all_eq_true, decide_eq_true_eq]
  intro c hc
  have h0 : x.cps.all (· < 0x110000) = true := h
  rw [← Array.all_toList, List.all_eq_true] at h0
  have := of_decide_eq_true (h0 c hc)
  have e : (16 : Nat) ^ 8 = 4294967296 := by decide
  omega
theorem fit_all {n w : Nat} : ∀ {ds : List PyData}, (∀ d ∈ ds, Fit n w d) → PyData.showableAll ds = true ∧ PyData.hasDictAll ds = false ∧ PyData.depthAll ds ≤ n ∧ PyData.leavesShortAll 13 ds = true ∧ PyData.weightAll ds ≤ (w + 1) * ds.length
  | [], _ => ⟨by simp only [PyData.showableAll], by simp only [PyData.hasDictAll], by simp only [PyData.depthAll]; exact Nat.zero_le _, by simp only [PyData.leavesShortAll], by simp only [PyData.weightAll]; exact Nat.zero_le _⟩
  | d :: ds, h => by
    obtain ⟨i1, i2, i3, i4, i5⟩ := fit_all (ds := ds) fun e he => h e (List.mem_cons_of_mem _ he)
    have f := h d List.mem_cons_self
    refine ⟨?_, ?_, ?_, ?_, ?_⟩
    · simp only [PyData.showableAll, f.sh, i1, Bool.and_self]
    · simp only [PyData.hasDictAll, f.nd, i2, Bool.or_self]
    · simp only [PyData.depthAll]
      exact Nat.max_le.mpr ⟨f.dp, i3⟩
    · simp only [PyData.leavesShortAll, f.lv, i4, Bool.and_self]
    · simp only [PyData.weightAll, List.length_cons]
      rw [Nat.mul_add, Nat.mul_one]
      have := f.wt
      omega
theorem fit_list {n w m : Nat} {ds : List PyData} (h : ∀ d ∈ ds, Fit n w d) (hm : ds.length ≤ m) : Fit (n + 1) ((w + 1) * m) (.list ds) := by
  obtain ⟨i1, i2, i3, i4, i5⟩ := fit_all h
  refine ⟨by simp only [PyData.showable, i1], by simp only [PyData.hasDict, i2], by simp only [PyData.depth]; omega, by simp only [PyData.leavesShort, i4], ?_⟩
  simp only [PyData.weight]
  exact Nat.le_trans i5 (Nat.mul_le_mul_left _ hm)
theorem fit_tuple {n w m : Nat} {ds : List PyData} (h : ∀ d ∈ ds, Fit n w d) (hm : ds.length ≤ m) : Fit (n + 1) ((w + 1) * m) (.tuple ds) := by
  obtain ⟨i1, i2, i3, i4, i5⟩ := fit_all h
  refine ⟨by simp only [PyData.showable, i1], by simp only [PyData.hasDict, i2], by simp only [PyData.depth]; omega, by simp only [PyData.leavesShort, i4], ?_⟩
  simp only [PyData.weight]
  exact Nat.le_trans i5 (Nat.mul_le_mul_left _ hm)
/-- what is written of a thing -/
def Shown (K : PySem.W.Frag) (H : Hp) (x : V) (d : PyData) : Prop := (∃ a, x = .ref a) ∧ Dp K H x d ∧ ∃ n w, Fit n w d ∧ n ≤ 60 ∧ w ≤ 1048576
theorem Shown.mk_ {K : PySem.W.Frag} {H : Hp} {a : Addr} {d : PyData} {n w : Nat} (h : Dp K H (.ref a) d) (f : Fit n w d) (h1 : n ≤ 60 := by decide) (h2 : w ≤ 1048576 := by decide) : Shown K H (.ref a) d := ⟨⟨a, rfl⟩, h, n, w, f, h1, h2⟩
section
variable {X : Cx}
def rReprS (K : PySem.W.Frag) : List V → Hp → VK → Prop := fun xs H Q => ∃ (x : V) (d : PyData), xs = [x] ∧ Shown K H x d ∧ Q (.str d.shown) H
theorem call_reprS {k : Nat} (z : Room k X.A) : CallR X (.builtin "repr") (rReprS X.K) := by
  intro pins s σ H xs us Q I r h
  obtain ⟨x, d, rfl, ⟨⟨a, rfl⟩, hd, n, w, f, h1, h2⟩, q⟩ := h
  exact call_repr z pins s σ H _ us Q I r ⟨a, d, rfl, hd, f.sh, f.nd, Nat.le_trans f.dp h1, f.fits h2, q⟩
end
theorem dpAll_map {α : Type} {K : PySem.W.Frag} {H : Hp} (f : α → V) (g : α → PyData) : ∀ {xs : List α}, (∀ x ∈ xs, Dp K H (f x) (g x)) → DpAll K H (xs.map f) (xs.map g)
  | [], _ => .nil
  | x :: xs, h => .cons (h x List.mem_cons_self) (dpAll_map f g fun y hy => h y (List.mem_cons_of_mem _ hy))
/-- friends, as they are written -/
def palsD (ps : List (Str × Str)) : PyData := .tuple (ps.map fun p => .tuple [.str p.1, .str p.2])
theorem PalsAt.dp {K : PySem.W.Frag} {H : Hp} {a : Addr} {ps : List (Str × Str)} (h : PalsAt H a ps) : Dp K H (.ref a) (palsD ps) := by
  obtain ⟨bs, h1, h2, rfl⟩ := h
  unfold palsD
  rw [List.map_map]
  refine .tup (.inl (.inl h1)) (dpAll_map _ _ fun b hb => ?_)
  exact .tup (.inl (.inl (h2 b hb))) (.cons (.str _) (.cons (.str _) .nil))
def strsD (xs : List Str) : PyData := .list (xs.map .str)
theorem fitl_nil {n w : Nat} : ∀ d ∈ ([] : List PyData), Fit n w d := fun _ h => nomatch h
theorem fitl_cons {n w : Nat} {e : PyData} {es : List PyData} (h : Fit n w e) (t : ∀ d ∈ es, Fit n w d) : ∀ d ∈ e :: es, Fit n w d := fun d hd => (List.mem_cons.mp hd).elim (fun z => z ▸ h) (t d)
end Lk
set_option maxRecDepth 100000
set_option maxHeartbeats 4000000
namespace Lk
open PySem PySem.Spec PyProof.Rows L2

/-! ### neighbours exchanged -/
def swapL (l : List Str) (i : Nat) (x y : Str) : List Str := l.take i ++ [y, x] ++ l.drop (i + 2)
theorem split2 {l : List Str} {i : Nat} {x y : Str} (hx : l[i]? = some x) (hy : l[i + 1]? = some y) : l = l.take i ++ [x, y] ++ l.drop (i + 2) := by
  have hi : i + 1 < l.length := (List.getElem?_eq_some_iff.mp hy).1
  have e1 : l.drop i = x :: l.drop (i + 1) := by
    rw [List.drop_eq_getElem_cons (by omega)]
    congr 1
    exact (List.getElem?_eq_some_iff.mp hx).2
  have e2 : l.drop (i + 1) = y :: l.drop (i + 2) := by
    rw [List.drop_eq_getElem_cons hi]
    congr 1
    exact (List.getElem?_eq_some_iff.mp hy).2
  have e3 := (List.take_append_drop i l).symm
  rw [e1, e2] at e3
  rw [List.append_assoc]
  exact e3
theorem swap_perm {l : List Str} {i : Nat} {x y : Str} (hx : l[i]? = some x) (hy : l[i + 1]? = some y) : (swapL l i x y).Perm l := by
  have e := split2 hx hy
  have p : (swapL l i x y).Perm (l.take i ++ [x, y] ++ l.drop (i + 2)) := by
    unfold swapL
    refine List.Perm.append_right _ (List.Perm.append_left _ ?_)
    exact List.Perm.swap x y []
  rw [← e] at p
  exact p
/-! ### how many pairs stand the other way about -/
/-! ### promises -/
end Lk
set_option maxRecDepth 100000
set_option maxHeartbeats 4000000
namespace Lk
open PySem PySem.Spec PyProof.Rows L2

/-! ### hosts, as they are told -/
abbrev B3O := Addr × Str × Option Str
def optV : Option Str → V
  | none => .non
  | some y => .str y
def PairsO (H : Hp) (qs : List B3O) : Prop := ∀ q ∈ qs, H q.1 = some (.tup [.str q.2.1, optV q.2.2])
theorem PairsO.same {H H' : Hp} {qs : List B3O} (s : Same H H') (h : PairsO H qs) : PairsO H' qs := fun b hb => s _ _ (h b hb)
theorem PairsO.upd_ {H : Hp} {l : Addr} {ys : List V} {o' : HO} {qs : List B3O} (hl : H l = some (.lst ys)) (h : PairsO H qs) : PairsO (upd H l o') qs := fun c hc => (upd_ne (ne_of (h c hc) hl (fun z => nomatch z))).trans (h c hc)
/-! ### promises -/
/-- whom each bars, and more -/
def LedTo (H : Hp) (D : Addr) (ps : List (Str × Str)) (stand : List Str) (n : Nat) : Prop := ∃ kvs, H D = some (.dK kvs) ∧ kvs.length ≤ 100 ∧ ∀ x ∈ stand.take n, ∃ (la : Addr) (ys : List Str), valV kvs (.inr x) = some (.ref la) ∧ H la = some (.lst (ys.map V.str)) ∧ ys.Nodup ∧ (∀ y ∈ ys, y ∈ stand) ∧ ∀ y ∈ stand, wordsAt ps stand x y ≠ [] → y ∈ ys
theorem LedTo.same {H H' : Hp} {D : Addr} {ps : List (Str × Str)} {stand : List Str} {n : Nat} (s : Same H H') (h : LedTo H D ps stand n) : LedTo H' D ps stand n := by
  obtain ⟨kvs, h1, hk, h2⟩ := h
  refine ⟨kvs, s _ _ h1, hk, fun x hx => ?_⟩
  obtain ⟨la, ys, q1, q2, q3⟩ := h2 x hx
  exact ⟨la, ys, q1, s _ _ q2, q3⟩
end Lk
set_option maxRecDepth 100000
set_option maxHeartbeats 4000000
namespace Lk
open PySem PySem.Spec PyProof.Rows L2
/-! ### from one to another by what bars -/
inductive Leads (ps : List (Str × Str)) (row : List Str) : Str → Str → Prop where
  | one {u v : Str} (hu : u ∈ row) (hv : v ∈ row) (h : Bars ps row u v) : Leads ps row u v
  | more {u w v : Str} (hu : u ∈ row) (hw : w ∈ row) (h : Bars ps row u w) (t : Leads ps row w v) : Leads ps row u v
section
variable {ps : List (Str × Str)} {row order : List Str}
theorem Leads.left {u v : Str} (h : Leads ps row u v) : u ∈ row := by
  cases h with
  | one hu _ _ => exact hu
  | more hu _ _ _ => exact hu
theorem Leads.right {u v : Str} (h : Leads ps row u v) : v ∈ row := by
  induction h with
  | one _ hv _ => exact hv
  | more _ _ _ _ ih => exact ih
theorem Leads.trans {u w v : Str} (h : Leads ps row u w) : Leads ps row w v → Leads ps row u v := by
  induction h with
  | one hu hv h => exact fun t => .more hu hv h t
  | more hu hw h t ih => exact fun k => .more hu hw h (ih k)
/-- an order of a row -/
structure OrdOf (ps : List (Str × Str)) (row order : List Str) : Prop where
  nd : order.Nodup
  pm : order.Perm row
  st : standOf ps order = row
theorem OrdOf.ndr (h : OrdOf ps row order) : row.Nodup := h.pm.nodup_iff.mp h.nd
theorem OrdOf.len (h : OrdOf ps row order) : order.length = row.length := h.pm.length_eq
theorem OrdOf.bars (h : OrdOf ps row order) (irr : Irr ps) : ∀ u ∈ row, ∀ v ∈ row, Bars ps row u v → order.idxOf u < order.idxOf v := (lin_iff irr _ order row rfl h.nd h.pm).mp h.st
theorem Leads.idx {u v : Str} (irr : Irr ps) (o : OrdOf ps row order) (h : Leads ps row u v) : order.idxOf u < order.idxOf v := by
  induction h with
  | one hu hv h => exact o.bars irr _ hu _ hv h
  | more hu hw h t ih => exact Nat.lt_trans (o.bars irr _ hu _ hw h) ih
theorem Leads.ne {u v : Str} (irr : Irr ps) (o : OrdOf ps row order) (h : Leads ps row u v) : u ≠ v := fun e => by
  have := h.idx irr o
  rw [e] at this
  omega
theorem Leads.no {u v : Str} (irr : Irr ps) (o : OrdOf ps row order) (h : Leads ps row u v) : ¬ Leads ps row v u := fun z => (h.trans z).ne irr o rfl
/-! ### two parts of an order, one behind the other -/
end
end Lk
set_option maxRecDepth 100000
set_option maxHeartbeats 4000000
namespace Lk
open PySem PySem.Spec PyProof.Rows L2
section
variable {X : Cx}
def tTr (K : PySem.W.Frag) (ta : TE) : TT := fun σ H Q => ta σ H fun x H' => ∃ k, TruV K x H' k ∧ Q k H'
theorem pt_tr {a : Expr} {ta : TE} (ha : PE X a ta) (he : ∀ whole, isTrue a X.env whole = (do let v ← whole; standAt a.pos; holding [v] (truthy v)) := by intro _; rfl) : PT X a (tTr X.K ta) := pt_truth ha he
end
/-! ### a dict that is locked for a walk -/
/-! ### dicts whose values are all True -/
def trueK (ys : List Str) : List (Key × V) := ys.map fun y => ((Sum.inr y : Key), V.bl true)
def SetD (H : Hp) (d : Addr) (ys : List Str) : Prop := H d = some (.dK (trueK ys))
/-! ### who came behind whom -/
abbrev B4 := Str × Addr × List Str
def behK (qs : List B4) : List (Key × V) := qs.map fun q => ((Sum.inr q.1 : Key), V.ref q.2.1)
def BehAt (H : Hp) (D : Addr) (ps : List (Str × Str)) (row xs : List Str) : Prop := ∃ qs : List B4, H D = some (.dK (behK qs)) ∧ qs.map (·.1) = xs ∧ ∀ q ∈ qs, SetD H q.2.1 q.2.2 ∧ q.2.2.Nodup ∧ ∀ y, y ∈ q.2.2 ↔ Leads ps row q.1 y
theorem BehAt.same {H H' : Hp} {D : Addr} {ps : List (Str × Str)} {row xs : List Str} (s : Same H H') (h : BehAt H D ps row xs) : BehAt H' D ps row xs := by
  obtain ⟨qs, h1, h2, h3⟩ := h
  exact ⟨qs, s _ _ h1, h2, fun q hq => ⟨s _ _ (h3 q hq).1, (h3 q hq).2⟩⟩
/-- whom each bars -/
def barsL (ps : List (Str × Str)) (row : List Str) (x : Str) : List Str := row.filter fun y => !decide (wordsAt ps row x y = [])
def BarAt (H : Hp) (D : Addr) (ps : List (Str × Str)) (row : List Str) (n : Nat) : Prop := ∃ kvs, H D = some (.dK kvs) ∧ kvs.length ≤ n ∧ ∀ x ∈ row.take n, ∃ la, valV kvs (.inr x) = some (.ref la) ∧ H la = some (.lst ((barsL ps row x).map V.str))
theorem BarAt.same {H H' : Hp} {D : Addr} {ps : List (Str × Str)} {row : List Str} {n : Nat} (s : Same H H') (h : BarAt H D ps row n) : BarAt H' D ps row n := by
  obtain ⟨kvs, h1, h2, h3⟩ := h
  refine ⟨kvs, s _ _ h1, h2, fun x hx => ?_⟩
  obtain ⟨la, e1, e2⟩ := h3 x hx
  exact ⟨la, e1, s _ _ e2⟩
/-! ### put back at least, at most -/
section
variable {ps : List (Str × Str)} {row order : List Str}
end
/-! ### triples of a name and two numbers -/
abbrev B3T := Addr × Str × Nat × Nat
def TripAt (H : Hp) (qs : List B3T) : Prop := ∀ q ∈ qs, H q.1 = some (.tup [.str q.2.1, .int q.2.2.1, .int q.2.2.2])
theorem TripAt.same {H H' : Hp} {qs : List B3T} (s : Same H H') (h : TripAt H qs) : TripAt H' qs := fun b hb => s _ _ (h b hb)
theorem TripAt.upd_ {H : Hp} {l : Addr} {ys : List V} {o' : HO} {qs : List B3T} (hl : H l = some (.lst ys)) (h : TripAt H qs) : TripAt (upd H l o') qs := fun c hc => (upd_ne (ne_of (h c hc) hl (fun z => nomatch z))).trans (h c hc)
/-! ### promises -/
/-- the dict of whom each leads to, by the law -/
def AftAt (H : Hp) (D : Addr) (ps : List (Str × Str)) (row xs : List Str) : Prop := ∃ kvs, H D = some (.dK kvs) ∧ kvs.length ≤ xs.length ∧ ∀ x ∈ xs, ∃ (la : Addr) (ys : List Str), valV kvs (.inr x) = some (.ref la) ∧ H la = some (.lst (ys.map V.str)) ∧ ys.Nodup ∧ ∀ y, y ∈ ys ↔ Leads ps row x y
theorem AftAt.same {H H' : Hp} {D : Addr} {ps : List (Str × Str)} {row xs : List Str} (s : Same H H') (h : AftAt H D ps row xs) : AftAt H' D ps row xs := by
  obtain ⟨kvs, h1, h2, h3⟩ := h
  refine ⟨kvs, s _ _ h1, h2, fun x hx => ?_⟩
  obtain ⟨la, ys, e1, e2, e3⟩ := h3 x hx
  exact ⟨la, ys, e1, s _ _ e2, e3⟩
/-- whom each bars, and more, but none that it does not lead to -/
def LedX (H : Hp) (D : Addr) (ps : List (Str × Str)) (stand : List Str) (n : Nat) : Prop := ∃ kvs, H D = some (.dK kvs) ∧ kvs.length ≤ 100 ∧ ∀ x ∈ stand.take n, ∃ (la : Addr) (ys : List Str), valV kvs (.inr x) = some (.ref la) ∧ H la = some (.lst (ys.map V.str)) ∧ ys.Nodup ∧ (∀ y ∈ ys, Leads ps stand x y) ∧ ∀ y ∈ stand, wordsAt ps stand x y ≠ [] → y ∈ ys
theorem LedX.same {H H' : Hp} {D : Addr} {ps : List (Str × Str)} {stand : List Str} {n : Nat} (s : Same H H') (h : LedX H D ps stand n) : LedX H' D ps stand n := by
  obtain ⟨kvs, h1, hk, h2⟩ := h
  refine ⟨kvs, s _ _ h1, hk, fun x hx => ?_⟩
  obtain ⟨la, ys, q1, q2, q3⟩ := h2 x hx
  exact ⟨la, ys, q1, s _ _ q2, q3⟩
/-- rows of pairs, one of each order -/
abbrev LN := Addr × List B3N
def RowsAt (H : Hp) (rs : List LN) : Prop := ∀ r ∈ rs, H r.1 = some (.lst (refsN r.2)) ∧ PairsN H r.2
theorem RowsAt.same {H H' : Hp} {rs : List LN} (s : Same H H') (h : RowsAt H rs) : RowsAt H' rs := fun r hr => ⟨s _ _ (h r hr).1, (h r hr).2.same s⟩
end Lk
set_option maxRecDepth 100000
set_option maxHeartbeats 4000000
namespace Lk
open PySem PySem.Spec PyProof.Rows L2
/-! ### how many pairs stand otherwise -/
section
variable {ps : List (Str × Str)} {row o o2 : List Str}
/-- places, exchanged at one behind the other, that lead from one order to another one -/
inductive Exs (ps : List (Str × Str)) (row : List Str) : List Str → List Nat → List Str → Prop where
  | nil (o : List Str) : Exs ps row o [] o
  | cons {o o' : List Str} {i : Nat} {ts : List Nat} (x y : Str) (hx : o[i]? = some x) (hy : o[i + 1]? = some y) (h : OrdOf ps row (swapL o i x y)) (t : Exs ps row (swapL o i x y) ts o') : Exs ps row o (i :: ts) o'
theorem Exs.at_ {o o' : List Str} {ts : List Nat} (h : Exs ps row o ts o') : ∀ (k : Nat), k ≤ ts.length → ∃ m, Exs ps row o (ts.take k) m ∧ Exs ps row m (ts.drop k) o' := by
  induction h with
  | nil o => exact fun k _ => ⟨o, by rw [List.take_nil]; exact .nil _, by rw [List.drop_nil]; exact .nil _⟩
  | @cons o o' i ts u v hu hv h t ih =>
    intro k hk
    cases k with
    | zero => exact ⟨_, .nil _, .cons u v hu hv h t⟩
    | succ k =>
      obtain ⟨m, m1, m2⟩ := ih k (by simpa using hk)
      exact ⟨m, .cons u v hu hv h m1, m2⟩
/-! ### what is put back, all together -/
end
/-! ### promises -/
/-! ### a dict made of a list of pairs -/
end Lk
set_option maxRecDepth 100000
set_option maxHeartbeats 4000000
namespace Lk
open PySem PySem.Spec PyProof.Rows L2

/-! ### texts in order -/
/-! ### a dict that is walked where it is made -/
section
variable {X : Cx}
def rListOf (K : PySem.W.Frag) : List V → Hp → VK → Prop := fun xs H Q => ∃ p ys, xs = [.ref p] ∧ (SqL K H p ys ∨ SqT K H p ys) ∧ ∀ l, H l = none → Q (.ref l) (upd H l (.lst ys))
theorem call_listN : CallR X (.type "list") (rListOf X.K) := call_list_of
end

/-! ### friends, their pairs tuples or lists -/
def PairX (H : Hp) (bs : List B3) : Prop := (∀ b ∈ bs, H b.1 = some (.tup [.str b.2.1, .str b.2.2])) ∨ ∀ b ∈ bs, H b.1 = some (.lst [.str b.2.1, .str b.2.2])
theorem PairX.same {H H' : Hp} {bs : List B3} (s : Same H H') (h : PairX H bs) : PairX H' bs := h.elim (fun e => .inl fun b hb => s _ _ (e b hb)) (fun e => .inr fun b hb => s _ _ (e b hb))
/-- the dict of friends, either way about: its keys are just these, each once -/
def KnX (H : Hp) (d : Addr) (ps : List (Str × Str)) : Prop := ∃ kvs, H d = some (.dT kvs) ∧ (∀ a b, (valV kvs (k2 a b)).isSome = frd ps a b) ∧ (kvs.map (·.1)).Nodup ∧ (∀ e ∈ kvs, ∃ a b, e.1 = k2 a b) ∧ kvs.length ≤ 2000
theorem KnX.kn {H : Hp} {d : Addr} {ps : List (Str × Str)} (h : KnX H d ps) : KnAt H d ps := by
  obtain ⟨kvs, h1, h2, _⟩ := h
  exact ⟨kvs, h1, h2⟩
/-- those whom a dict has beside one -/
def other1 (who : Str) (k : List Key) : Option Str := match k with
  | [Sum.inr a, Sum.inr b] => if a = who then some b else none
  | _ => none
def others (who : Str) (kvs : List (List Key × V)) : List Str := kvs.filterMap fun e => other1 who e.1
/-! ### promises -/
/-! ### names of one stem -/
def zz : Str := "zzzzzzzz"
end Lk
set_option maxRecDepth 100000
set_option maxHeartbeats 4000000
namespace Lk
open PySem PySem.Spec PyProof.Rows L2
/-! ### dict(l), l a list of pairs whose first ones are tuples -/
abbrev E3 := List Key × Addr × Value
section
variable {prog : Program} {w : World} {A : Around} {E : Value → Shared → Prop}
end
section
variable {X : Cx}
end
/-! ### friends as a dict of their pairs -/
def MatesAt (H : Hp) (a : Addr) (ps : List (Str × Str)) : Prop := ∃ kvs, H a = some (.dT kvs) ∧ ∀ x y, (valV kvs (k2 x y)).isSome = decide ((x, y) ∈ ps)
def PalX (H : Hp) (a : Addr) (ps : List (Str × Str)) : Prop := PalsAt H a ps ∨ MatesAt H a ps
theorem PalX.same {H H' : Hp} {a : Addr} {ps : List (Str × Str)} (s : Same H H') (h : PalX H a ps) : PalX H' a ps := h.elim (fun e => .inl (e.same s)) fun ⟨kvs, h1, h2⟩ => .inr ⟨kvs, s _ _ h1, h2⟩
theorem PalX.oth {H H' : Hp} {a b : Addr} {ps : List (Str × Str)} (s : Oth b H H') (hb : IsBox H b) (h : PalX H a ps) : PalX H' a ps := h.elim (fun e => .inl (e.oth s hb)) fun ⟨kvs, h1, h2⟩ => .inr ⟨kvs, s _ _ (hb.ne_dT h1) h1, h2⟩
theorem PalX.upd_ {H : Hp} {l a : Addr} {ys : List V} {o' : HO} {ps : List (Str × Str)} (h : PalX H a ps) (hl : H l = some (.lst ys)) : PalX (upd H l o') a ps := h.elim (fun e => .inl (e.upd_ hl)) fun ⟨kvs, h1, h2⟩ => .inr ⟨kvs, (upd_ne (ne_of h1 hl (fun z => nomatch z))).trans h1, h2⟩
end Lk
set_option maxRecDepth 100000
set_option maxHeartbeats 4000000
namespace Lk
open PySem PySem.Spec PyProof.Rows L2
/-! ### list.remove of a text -/
section
variable {X : Cx}
end
/-! ### `dict([(pair, True) for pair in pals])` -/
/-! ### whoever can go goes first -/
section
variable {ps : List (Str × Str)} {stay : Nat → List Str} {sv : List Str}
/-- from a row, `m` served, to another one: whoever can go goes, in any order; where none can the last one served is put back -/
inductive Gre (ps : List (Str × Str)) (stay : Nat → List Str) (sv : List Str) : Nat → List Str → Nat → List Str → Prop where
  | done (m : Nat) (row : List Str) : Gre ps stay sv m row m row
  | go {m m' : Nat} {row row' : List Str} (x : Str) (h : LooseIn ps row x) (hs : x ∉ stay m) (t : Gre ps stay sv m (rem row x) m' row') : Gre ps stay sv m row m' row'
  | back {m m' : Nat} {row row' : List Str} (y : Str) (h : sv[m]? = some y) (no : ∀ x, LooseIn ps row x → x ∈ stay (m + 1)) (t : Gre ps stay sv m (y :: row) m' row') : Gre ps stay sv (m + 1) row m' row'
theorem Gre.trans {m m1 m2 : Nat} {a b c : List Str} (h : Gre ps stay sv m a m1 b) : Gre ps stay sv m1 b m2 c → Gre ps stay sv m a m2 c := by
  induction h with
  | done _ _ => exact id
  | go x h hs t ih => exact fun k => .go x h hs (ih k)
  | back y h no t ih => exact fun k => .back y h no (ih k)
theorem Gre.le {m m1 : Nat} {a b : List Str} (h : Gre ps stay sv m a m1 b) : m1 ≤ m := by
  induction h with
  | done _ _ => exact Nat.le_refl _
  | go x h hs t ih => exact ih
  | back y h no t ih => omega
theorem Gre.way {m m1 : Nat} {a b : List Str} (h : Gre ps stay sv m a m1 b) : ∃ ds, Way ps stay sv m1 m a ds b := by
  induction h with
  | done _ _ => exact ⟨[], .done _⟩
  | go x h hs t ih =>
    obtain ⟨ds, w⟩ := ih
    exact ⟨_, .go x h hs w⟩
  | back y h no t ih =>
    obtain ⟨ds, w⟩ := ih
    exact ⟨_, .back y h w⟩
/-- a way from the beginning goes on from wherever this leads to, and no more are left -/
theorem Gre.follow {m m1 u : Nat} {a b : List Str} (h : Gre ps stay sv m a m1 b) : (sv.take m ++ a).Nodup → u ≤ m1 → ∀ {ds fin}, Way ps stay sv u m a ds fin → ∃ ds' fin', Way ps stay sv u m1 b ds' fin' ∧ ∀ x ∈ fin', x ∈ fin := by
  induction h with
  | done m row => exact fun _ _ {ds fin} w => ⟨ds, fin, w, fun _ h => h⟩
  | go x h hs t ih =>
    intro nd hu ds fin w
    obtain ⟨ds', w'⟩ := w.swap nd x h.nb
    obtain ⟨d2, f2, w2, s2⟩ := ih (nd_rem nd) hu w'
    exact ⟨d2, f2, w2, fun y hy => (List.mem_filter.mp (s2 y hy)).1⟩
  | @back m m' row row' y hy no t ih =>
    intro nd hu ds fin w
    have tl := t.le
    cases w with
    | done _ => omega
    | go x h hs t' => exact absurd (no x h) hs
    | back y' hy' t' =>
      rw [hy] at hy'
      cases hy'
      rw [line_back hy] at nd
      exact ih nd hu t'
/-- at the beginning, where none can go any more, the fewest are left -/
theorem Gre.least {m u : Nat} {a b : List Str} (h : Gre ps stay sv m a u b) (nd : (sv.take m ++ a).Nodup) (no : ∀ x, LooseIn ps b x → x ∈ stay u) {ds : List Deed} {fin : List Str} (w : Way ps stay sv u m a ds fin) : ∀ x ∈ b, x ∈ fin := by
  obtain ⟨ds', fin', w', s'⟩ := h.follow nd (Nat.le_refl _) w
  intro x hx
  refine s' x ?_
  cases w' with
  | done _ => exact hx
  | go y hy hs t => exact absurd (no y hy) hs
  | back y hy t =>
    have := t.le
    omega
end
/-! ### promises -/
theorem swap_filter {l : List Str} {i : Nat} {x y : Str} {p : Str → Bool} (hx : l[i]? = some x) (hy : l[i + 1]? = some y) (h : ¬ (p x = true ∧ p y = true)) : (swapL l i x y).filter p = l.filter p := by
  have e := split2 hx hy
  have e1 : l.filter p = (l.take i).filter p ++ ([x, y].filter p) ++ (l.drop (i + 2)).filter p := by rw [← List.filter_append, ← List.filter_append, ← e]
  have e2 : (swapL l i x y).filter p = (l.take i).filter p ++ ([y, x].filter p) ++ (l.drop (i + 2)).filter p := by
    unfold swapL
    rw [List.filter_append, List.filter_append]
  rw [e1, e2]
  congr 2
  cases px : p x <;> cases py : p y
  · simp [px, py]
  · simp [px, py]
  · simp [px, py]
  · exact absurd ⟨px, py⟩ h
/-- elders that stand in the line as they are told stand so still -/
theorem kept_line {line line' olds : List Str} (nd : line.Nodup) (nd' : line'.Nodup) (h : olds.Sublist line) (e : (line'.filter fun x => decide (x ∈ olds)) = line.filter fun x => decide (x ∈ olds)) : olds.Sublist line' := by
  have e1 := sub_filter h nd
  rw [e1, ← e]
  exact List.filter_sublist
def spSpoilt : Sp := fun vs H Q _ => ∃ (b e g t : Addr) (olds gone stand : List Str), vs = [.ref b, .ref e, .ref g, .ref t] ∧ IsBox H b ∧ RowAt H e olds ∧ TupAt H g (gone.map V.str) ∧ TupAt H t (stand.map V.str) ∧ gone.length + stand.length ≤ 100 ∧
  ∀ (T g' t' : Addr) (gone' stand' : List Str) (H' : Hp), Oth b H H' → IsBox H' b → H' T = some (.tup [.ref g', .ref t']) → TupAt H' g' (gone'.map V.str) → TupAt H' t' (stand'.map V.str) → gone'.length = gone.length → (gone' ++ stand').Perm (gone ++ stand) → ((gone' ++ stand').filter fun x => decide (x ∈ olds)) = ((gone ++ stand).filter fun x => decide (x ∈ olds)) → Q (.ref T) H'
end Lk
set_option maxRecDepth 100000
set_option maxHeartbeats 4000000
namespace Lk
open PySem PySem.Spec PyProof.Rows L2
/-! ### whether one can have come when so many had been served -/
section
variable {ps : List (Str × Str)} {stay stay' : Nat → List Str} {sv : List Str}
theorem Way.keepB {m0 m : Nat} {row fin : List Str} {ds : List Deed} {x : Str} (h : Way ps stay sv m0 m row ds fin) : (∀ k, m0 ≤ k → k ≤ m → x ∈ stay k) → x ∈ sv.take m ++ row → x ∈ sv.take m0 ++ fin := by
  induction h with
  | done _ => exact fun _ h => h
  | @go m row ds fin y h hs t ih =>
    intro hk hx
    refine ih hk ?_
    rcases List.mem_append.mp hx with z | z
    · exact List.mem_append_left _ z
    · refine List.mem_append_right _ (mem_rem.mpr ⟨z, fun e => ?_⟩)
      rw [← e] at hs
      exact hs (hk m t.le (Nat.le_refl _))
  | @back m row ds fin y h t ih =>
    intro hk hx
    rw [line_back h] at hx
    exact ih (fun k h1 h2 => hk k h1 (by omega)) hx
theorem Gre.keep {m m' : Nat} {a b : List Str} {x : Str} (h : Gre ps stay sv m a m' b) (hk : ∀ k, x ∈ stay k) (hx : x ∈ sv.take m ++ a) : x ∈ sv.take m' ++ b := by
  obtain ⟨ds, w⟩ := h.way
  exact w.keepB (fun k _ _ => hk k) hx
theorem Gre.change {m m' : Nat} {a b : List Str} (h : Gre ps stay sv m a m' b) : (∀ k x, m' ≤ k → x ∈ sv.take m ++ a → x ∉ stay k → x ∉ stay' k) → (∀ k x, m' < k → x ∈ stay k → x ∈ stay' k) → Gre ps stay' sv m a m' b := by
  induction h with
  | done _ _ => exact fun _ _ => .done _ _
  | @go m m' row row' y h hs t ih =>
    intro h1 h2
    refine .go y h (h1 m y t.le (List.mem_append_right _ h.mem) hs) (ih (fun k x hk hx => h1 k x hk ?_) h2)
    rcases List.mem_append.mp hx with z | z
    · exact List.mem_append_left _ z
    · exact List.mem_append_right _ (mem_rem.mp z).1
  | @back m m' row row' y h no t ih =>
    intro h1 h2
    have := t.le
    refine .back y h (fun x hx => h2 (m + 1) x (by omega) (no x hx)) (ih (fun k x hk hx => h1 k x hk ?_) h2)
    rw [line_back h]
    exact hx
end
section
variable {ps : List (Str × Str)} {olds gn st ins1 ins2 : List Str} {name : Str} {many : Nat}
end
end Lk
set_option maxRecDepth 100000
set_option maxHeartbeats 4000000
namespace Lk
open PySem PySem.Spec PyProof.Rows L2
/-! ### why one never comes -/
theorem cutL_mid {α : Type} (xs : List α) (lo hi : Nat) (h : hi ≤ xs.length) : cutL xs (some (lo : Int)) (some (hi : Int)) = (xs.take hi).drop lo := by
  unfold cutL
  rw [HT.sIx_nat, HT.sIx_nat, Nat.min_eq_left h, List.drop_take]
  by_cases c : lo ≤ xs.length
  · rw [Nat.min_eq_left c]
  · rw [Nat.min_eq_right (by omega), List.drop_length, List.take_nil, List.drop_eq_nil_of_le (by omega), List.take_nil]
theorem two_splits {a b a' b' : List Str} {x : Str} (nd : (a ++ x :: b).Nodup) (e : a ++ x :: b = a' ++ x :: b') : a = a' ∧ b = b' := by
  have n2 : (a' ++ x :: b').Nodup := by rw [← e]; exact nd
  have na : x ∉ a := fun z => (List.nodup_append.mp nd).2.2 x z x List.mem_cons_self rfl
  have na' : x ∉ a' := fun z => (List.nodup_append.mp n2).2.2 x z x List.mem_cons_self rfl
  rcases List.append_eq_append_iff.mp e with ⟨c, e1, e2⟩ | ⟨c, e1, e2⟩
  · cases c with
    | nil =>
      rw [List.append_nil] at e1
      exact ⟨e1.symm, by simpa using e2⟩
    | cons y c =>
      injection e2 with h1 h2
      rw [e1, ← h1] at na'
      exact absurd (List.mem_append_right _ List.mem_cons_self) na'
  · cases c with
    | nil =>
      rw [List.append_nil] at e1
      exact ⟨e1, by simpa using e2.symm⟩
    | cons y c =>
      injection e2 with h1 h2
      rw [e1, ← h1] at na
      exact absurd (List.mem_append_right _ List.mem_cons_self) na
section
variable {ps : List (Str × Str)} {stay : Nat → List Str} {sv : List Str}
theorem trace_end (irr : Irr ps) : ∀ (m : Nat) (row : List Str), m ≤ sv.length → (sv.take m ++ row).Nodup → Nf ps (stay 0) (trace ps stay sv m row).2
  | 0, row, _, hd => (gone_red (ps := ps) (stay := stay 0) irr row.length row rfl (nd_right hd)).2.1
  | m + 1, row, hm, hd => by
    have hy := getD_at (sv := sv) (m := m) (by omega)
    have g := gone_red (ps := ps) (stay := stay (m + 1)) irr row.length row rfl (nd_right hd)
    have hd2 := g.1.nd2 hd
    rw [line_back hy] at hd2
    exact trace_end irr m _ (by omega) hd2
/-- what there is just ahead of the `k`-th one's being put back -/
theorem trace_at (irr : Irr ps) {k : Nat} : ∀ (m : Nat) (row : List Str), k < m → m ≤ sv.length → (sv.take m ++ row).Nodup → ∃ R ds, Way ps stay sv (k + 1) m row ds R ∧ Nf ps (stay (k + 1)) R ∧ (trace ps stay sv m row).2 = (trace ps stay sv k (sv.getD k "" :: R)).2
  | 0, row, hk, _, _ => absurd hk (Nat.not_lt_zero _)
  | m + 1, row, hk, hm, hd => by
    have hy := getD_at (sv := sv) (m := m) (by omega)
    have g := gone_red (ps := ps) (stay := stay (m + 1)) irr row.length row rfl (nd_right hd)
    have hd2 := g.1.nd2 hd
    by_cases c : k = m
    · subst c
      exact ⟨goneR ps (stay (k + 1)) row, _, gone_way irr row.length row rfl (nd_right hd) (.done _), g.2.1, rfl⟩
    · rw [line_back hy] at hd2
      obtain ⟨R, ds, w, nf, e⟩ := trace_at irr (k := k) m (sv.getD m "" :: goneR ps (stay (m + 1)) row) (by omega) (by omega) hd2
      exact ⟨R, _, gone_way irr row.length row rfl (nd_right hd) (.back _ hy w), nf, e⟩
theorem sub2_right {a b : List Str} {f y : Str} (nd : (a ++ b).Nodup) (h : [f, y].Sublist (a ++ b)) (hf : f ∈ b) : ∃ c d, b = c ++ f :: d ∧ y ∈ d := by
  have nf : f ∉ a := fun z => (List.nodup_append.mp nd).2.2 f z f hf rfl
  have hb : [f, y].Sublist b := by
    have h' := h.filter (fun z => decide (z ∈ b))
    have e1 : (a ++ b).filter (fun z => decide (z ∈ b)) = b := by
      rw [List.filter_append, List.filter_eq_nil_iff.mpr (fun z hz => by
        rw [decide_eq_true_iff]
        exact fun hz' => (List.nodup_append.mp nd).2.2 z hz z hz' rfl), List.nil_append]
      exact List.filter_eq_self.mpr fun z hz => decide_eq_true hz
    rw [e1] at h'
    have hy : y ∈ b := by
      rcases List.mem_append.mp (h.subset (List.mem_cons_of_mem _ List.mem_cons_self)) with z | z
      · obtain ⟨a1, a2, ea⟩ := List.append_of_mem z
        have : [f, y].Sublist (a ++ b) := h
        refine absurd ?_ nf
        -- f stands ahead of y, and y is in a
        have nd' := nd
        rw [ea] at this nd
        rw [List.append_assoc, List.cons_append] at this nd
        have h3 : [f].Sublist a1 := by
          obtain ⟨l1, l2, el, s1, s2⟩ := List.sublist_append_iff.mp this
          cases l1 with
          | nil =>
            rw [List.nil_append] at el
            subst el
            have : [f, y].Sublist (y :: (a2 ++ b)) := s2
            cases this with
            | cons _ t =>
              have hy2 := t.subset (List.mem_cons_of_mem _ List.mem_cons_self)
              exact absurd hy2 (List.nodup_cons.mp (List.nodup_append.mp nd).2.1).1
            | cons_cons _ t =>
              have hy2 := t.subset List.mem_cons_self
              exact absurd hy2 (List.nodup_cons.mp (List.nodup_append.mp nd).2.1).1
          | cons z l1 =>
            injection el with e1 e2
            subst e1
            exact (List.Sublist.cons_cons _ (List.nil_sublist _)).trans s1
        rw [ea]
        exact List.mem_append_left _ (h3.subset List.mem_cons_self)
      · exact z
    have e2 : [f, y].filter (fun z => decide (z ∈ b)) = [f, y] := by simp [hf, hy]
    rw [e2] at h'
    exact h'
  obtain ⟨c, d, e⟩ := List.append_of_mem hf
  refine ⟨c, d, e, ?_⟩
  have ndb : b.Nodup := (List.nodup_append.mp nd).2.1
  rw [e] at hb ndb
  obtain ⟨l1, l2, el, s1, s2⟩ := List.sublist_append_iff.mp hb
  cases l1 with
  | nil =>
    rw [List.nil_append] at el
    subst el
    cases s2 with
    | cons _ t => exact absurd (t.subset List.mem_cons_self) (List.nodup_cons.mp (List.nodup_append.mp ndb).2.1).1
    | cons_cons _ t => exact t.subset List.mem_cons_self
  | cons z l1 =>
    injection el with e1 e2
    subst e1
    exact absurd (s1.subset List.mem_cons_self) (fun z => (List.nodup_append.mp ndb).2.2 _ z _ List.mem_cons_self rfl)
/-- ahead of a friend who never goes one never goes -/
theorem Way.keepAhead {m0 m : Nat} {row fin : List Str} {ds : List Deed} {f y : Str} (h : Way ps stay sv m0 m row ds fin) : (sv.take m ++ row).Nodup → [f, y].Sublist (sv.take m ++ row) → y ∈ fin → frd ps f y = true → [f, y].Sublist (sv.take m0 ++ fin) := by
  induction h with
  | done _ => exact fun _ h _ _ => h
  | @go m row ds fin x h hs t ih =>
    intro nd hs2 hy hf
    refine ih (nd_rem nd) ?_ hy hf
    have nx : x ≠ f := fun e => by
      subst e
      obtain ⟨c, d, e1, hyd⟩ := sub2_right nd hs2 h.mem
      obtain ⟨c', d', e2, no⟩ := h.nb
      have e3 := two_splits (by rw [← e1]; exact nd_right nd) (e1.symm.trans e2)
      rw [e3.2] at hyd
      rw [no y hyd] at hf
      cases hf
    have ny : x ≠ y := fun e => by
      subst e
      rcases List.mem_append.mp (t.sub _ hy) with z | z
      · exact (List.nodup_append.mp nd).2.2 _ z _ h.mem rfl
      · exact (mem_rem.mp z).2 rfl
    have e : rem (sv.take m ++ row) x = sv.take m ++ rem row x := by
      unfold rem
      rw [List.filter_append, List.filter_eq_self.mpr (fun z hz => by
        have : z ≠ x := fun e => (List.nodup_append.mp nd).2.2 z hz x h.mem e
        simpa using this)]
    have s2 := hs2.filter (fun z => !decide (z = x))
    rw [show (sv.take m ++ row).filter (fun z => !decide (z = x)) = rem (sv.take m ++ row) x from rfl, e] at s2
    have e2 : [f, y].filter (fun z => !decide (z = x)) = [f, y] := by simp [Ne.symm nx, Ne.symm ny]
    rw [e2] at s2
    exact s2
  | @back m row ds fin z h t ih =>
    intro nd hs hy hf
    rw [line_back h] at nd hs
    exact ih nd hs hy hf
/-- whether one behind `who` can go is no business of those ahead of `who` -/
theorem loose_behind {A A' B : List Str} {who z : Str} (nd : (A' ++ who :: B).Nodup) (hz : z ∈ B) (h : LooseIn ps (A' ++ who :: B) z) (hA : ∀ f ∈ A, f ∉ A' → frd ps z f = false) : LooseIn ps (A ++ who :: B) z := by
  obtain ⟨b1, b2, eb⟩ := List.append_of_mem hz
  obtain ⟨c, d, e, hb, hl⟩ := h
  have e' : (A' ++ who :: b1) ++ z :: b2 = c ++ z :: d := by
    rw [← e, eb]
    simp
  have nd' : ((A' ++ who :: b1) ++ z :: b2).Nodup := by
    rw [eb] at nd
    simpa using nd
  obtain ⟨e1, e2⟩ := two_splits nd' e'
  refine ⟨A ++ who :: b1, b2, by rw [eb]; simp, by rw [e2]; exact hb, ?_⟩
  rcases hl with ⟨a', f, ea, hf⟩ | ⟨no, ed⟩
  · refine .inl ?_
    rw [← e1] at ea
    have : ∃ b1', who :: b1 = b1' ++ [f] := by
      rcases List.eq_nil_or_concat b1 with z | ⟨b0, g, z⟩
      · subst z
        have := congrArg List.getLast? ea
        simp at this
        exact ⟨[], by simp [this]⟩
      · subst z
        have e5 : (A' ++ who :: b0) ++ [g] = a' ++ [f] := by rw [← ea]; simp
        have e6 := (List.append_inj' e5 rfl).2
        exact ⟨who :: b0, by rw [← e6]; simp⟩
    obtain ⟨b1', eb1⟩ := this
    exact ⟨A ++ b1', f, by rw [eb1]; simp, hf⟩
  · refine .inr ⟨fun y hy => ?_, by rw [e2, ed]⟩
    rw [← e1] at no
    rcases List.mem_append.mp hy with u | u
    · by_cases c : y ∈ A'
      · exact no y (List.mem_append_left _ c)
      · exact hA y u c
    · exact no y (List.mem_append_right _ u)
/-- behind one who never goes, where none can go, none ever goes -/
theorem Way.stuck {m0 m : Nat} {row fin : List Str} {ds : List Deed} {who : Str} {S : List Str} (h : Way ps stay sv m0 m row ds fin) : (∀ k, stay k = S) → (sv.take m ++ row).Nodup → who ∈ fin → ∀ A B, row = A ++ who :: B → (∀ z ∈ B, LooseIn ps row z → z ∈ S) → ∀ z ∈ B, z ∈ fin := by
  induction h with
  | done row => exact fun _ _ _ A B e _ z hz => by rw [e]; exact List.mem_append_right _ (List.mem_cons_of_mem _ hz)
  | @go m row ds fin x h hs t ih =>
    intro hS nd hw A B e no
    have ndr := nd_right nd
    have nw : x ≠ who := fun z => by
      subst z
      rcases List.mem_append.mp (t.sub _ hw) with z | z
      · exact (List.nodup_append.mp nd).2.2 _ z _ h.mem rfl
      · exact (mem_rem.mp z).2 rfl
    have xA : x ∉ B := fun z => hs (by rw [hS]; exact no x z h)
    have eB : rem B x = B := List.filter_eq_self.mpr fun z hz => by
      have : z ≠ x := fun e => xA (e ▸ hz)
      simpa using this
    have e2 : rem row x = rem A x ++ who :: B := by
      rw [e]
      unfold rem at eB ⊢
      rw [List.filter_append, List.filter_cons, if_pos (by simpa using Ne.symm nw), eB]
    refine ih hS (nd_rem nd) hw (rem A x) B e2 fun z hz hl => no z hz ?_
    rw [e]
    rw [e2] at hl
    refine loose_behind (by rw [← e2]; exact (nd_right (nd_rem nd))) hz hl fun f hf hf2 => ?_
    have ef : f = x := Classical.byContradiction fun c => hf2 (mem_rem.mpr ⟨hf, c⟩)
    subst ef
    obtain ⟨c, d, e3, nob⟩ := h.nb
    obtain ⟨a1, a2, ea⟩ := List.append_of_mem hf
    have e4 : a1 ++ f :: (a2 ++ who :: B) = c ++ f :: d := by
      rw [← e3, e, ea]
      simp
    have := two_splits (by rw [e4, ← e3]; exact ndr) e4
    rw [frd_comm]
    refine nob z ?_
    rw [← this.2]
    exact List.mem_append_right _ (List.mem_cons_of_mem _ hz)
  | @back m row ds fin y h t ih =>
    intro hS nd hw A B e no
    rw [line_back h] at nd
    refine ih hS nd hw (y :: A) B (by rw [e]; rfl) fun z hz hl => no z hz ?_
    rw [e] at hl ⊢
    exact loose_behind (A' := y :: A) (by rw [e] at nd; exact nd_right nd) hz hl fun f hf hf2 => absurd (List.mem_cons_of_mem _ hf) hf2
end
section
variable {ps : List (Str × Str)} {stay : Nat → List Str} {sv : List Str}
theorem sub_split {X Y L1 L2 : List Str} {w : Str} (nd : (L1 ++ w :: L2).Nodup) (h : (X ++ w :: Y).Sublist (L1 ++ w :: L2)) : X = L1.filter (fun z => decide (z ∈ X ++ w :: Y)) ∧ Y = L2.filter (fun z => decide (z ∈ X ++ w :: Y)) := by
  have e := sub_filter h nd
  generalize hp : (fun z => decide (z ∈ X ++ w :: Y)) = p at e ⊢
  have pw : p w = true := by
    rw [← hp]
    exact decide_eq_true (List.mem_append_right _ List.mem_cons_self)
  rw [List.filter_append, List.filter_cons, if_pos pw] at e
  exact two_splits (nd.sublist h) e
theorem Way.subl2 {m0 m : Nat} {row fin : List Str} {ds : List Deed} (h : Way ps stay sv m0 m row ds fin) : (sv.take m0 ++ fin).Sublist (sv.take m ++ row) := by
  induction h with
  | done _ => exact List.Sublist.refl _
  | go x h hs t ih => exact ih.trans (List.Sublist.append_left List.filter_sublist _)
  | back y h t ih =>
    rw [line_back h]
    exact ih
def behindL (line there : List Str) (who : Str) : List Str := (line.drop (line.idxOf who + 1)).filter fun x => decide (x ∈ there)
def betweenL (line there : List Str) (who : Str) (h : Nat) : List Str := ((line.take (line.idxOf who)).drop (h + 1)).filter fun x => decide (x ∈ there)
/-- that there is something to tell -/
def Tellable (ps : List (Str × Str)) (line : List Str) (many : Nat) (there : List Str) (who : Str) : Prop :=
  (behindL line there who).filter (frd ps who) ≠ [] ∨ (lastP (frd ps who) (line.take (line.idxOf who)) = none ∧ behindL line there who ≠ []) ∨ ∃ h, lastP (frd ps who) (line.take (line.idxOf who)) = some h ∧ betweenL line there who h ≠ [] ∧ (h < many → behindL line there who ≠ [])
theorem idx_split {L1 L2 : List Str} {w : Str} (nd : (L1 ++ w :: L2).Nodup) : (L1 ++ w :: L2).idxOf w = L1.length ∧ (L1 ++ w :: L2).take L1.length = L1 ∧ (L1 ++ w :: L2).drop (L1.length + 1) = L2 := by
  refine ⟨idx_at nd (by simp), by simp, ?_⟩
  rw [List.drop_append]
  simp
theorem tellable {row elders there : List Str} {who : Str} (irr : Irr ps) (nd : (sv ++ row).Nodup) (hw : who ∈ (trace ps (stayF elders none) sv sv.length row).2) (hn : who ∉ elders) (ht : ∀ x ∈ sv ++ row, (x ∈ there ↔ x ∈ (trace ps (stayF elders none) sv sv.length row).2)) : Tellable ps (sv ++ row) sv.length there who := by
  have tk : sv.take sv.length = sv := List.take_of_length_le (Nat.le_refl _)
  have nd0 : (sv.take sv.length ++ row).Nodup := by rw [tk]; exact nd
  have w := trace_way (ps := ps) (stay := stayF elders none) (sv := sv) irr sv.length row (Nat.le_refl _) nd0
  have nf := trace_end (ps := ps) (stay := stayF elders none) (sv := sv) irr sv.length row (Nat.le_refl _) nd0
  have hS : ∀ k, stayF elders none k = elders ++ [] := fun k => rfl
  have sF := w.subl
  rw [tk] at sF
  obtain ⟨Tr, hF⟩ : ∃ Tr, Tr = (trace ps (stayF elders none) sv sv.length row).2 := ⟨_, rfl⟩
  rw [← hF] at hw ht w nf sF
  obtain ⟨L1, L2, eL⟩ := List.append_of_mem (sF.subset hw)
  have ndL := nd
  rw [eL] at ndL
  obtain ⟨ix, tk1, dr1⟩ := idx_split ndL
  obtain ⟨A, B, eF⟩ := List.append_of_mem hw
  have sp : A = L1.filter (fun z => decide (z ∈ Tr)) ∧ B = L2.filter (fun z => decide (z ∈ Tr)) := by
    rw [eF]
    refine sub_split ndL ?_
    rw [← eF, ← eL]
    exact sF
  have mL1 : ∀ z ∈ L1, z ∈ sv ++ row := fun z hz => by rw [eL]; exact List.mem_append_left _ hz
  have mL2 : ∀ z ∈ L2, z ∈ sv ++ row := fun z hz => by rw [eL]; exact List.mem_append_right _ (List.mem_cons_of_mem _ hz)
  have eb : behindL (sv ++ row) there who = B := by
    unfold behindL
    rw [eL, ix, dr1, sp.2]
    exact List.filter_congr fun z hz => decide_eq_decide.mpr (ht z (mL2 z hz))
  have nl : ¬ LooseP ps A B who := fun z => hn (by
    have := nf who ⟨A, B, eF, z⟩
    rw [hS] at this
    simpa using this)
  have et : (sv ++ row).take ((sv ++ row).idxOf who) = L1 := by rw [eL, ix, tk1]
  have elen : (sv ++ row).idxOf who = L1.length := by rw [eL, ix]
  unfold Tellable betweenL
  rw [eb, et]
  by_cases cf : B.filter (frd ps who) = []
  · refine .inr ?_
    have nb : ∀ y ∈ B, frd ps who y = false := fun y hy => by
      have := List.filter_eq_nil_iff.mp cf y hy
      simpa using this
    cases eh : lastP (frd ps who) L1 with
    | none =>
      refine .inl ⟨rfl, fun z => nl ⟨nb, .inr ⟨fun y hy => ?_, z⟩⟩⟩
      rw [sp.1] at hy
      exact lastP_no.mp eh y (List.mem_filter.mp hy).1
    | some h =>
      obtain ⟨f, hf1, hf2, hf3⟩ := lastP_some eh
      have hl := lastP_lt eh
      refine .inr ⟨h, rfl, ?_, fun hm => ?_⟩
      · -- the host never goes
        have s1 : [f, who].Sublist (sv.take sv.length ++ row) := by
          rw [tk, eL, show [f, who] = [f] ++ [who] from rfl]
          exact List.Sublist.append (List.singleton_sublist.mpr (List.mem_of_getElem? hf1)) (List.singleton_sublist.mpr List.mem_cons_self)
        have s2 := w.keepAhead nd0 s1 hw (by rw [frd_comm]; exact hf2)
        have fF : f ∈ Tr := by
          have := s2.subset (a := f) List.mem_cons_self
          simpa using this
        intro z
        refine nl ⟨nb, .inl ?_⟩
        have e1 : L1 = L1.take h ++ f :: L1.drop (h + 1) := split_at hf1
        have e2 : A = (L1.take h).filter (fun z => decide (z ∈ Tr)) ++ f :: (L1.drop (h + 1)).filter (fun z => decide (z ∈ Tr)) := by
          rw [sp.1]
          conv => lhs; rw [e1]
          rw [List.filter_append, List.filter_cons, if_pos (decide_eq_true fF)]
        have e3 : (L1.drop (h + 1)).filter (fun z => decide (z ∈ Tr)) = [] := by
          rw [← z]
          exact List.filter_congr fun y hy => decide_eq_decide.mpr (ht y (mL1 y (List.mem_of_mem_drop hy))).symm
        rw [e3] at e2
        exact ⟨_, f, e2, hf2⟩
      · -- when the host has been served
        obtain ⟨R, ds, w1, nfR, eR⟩ := trace_at (ps := ps) (stay := stayF elders none) (sv := sv) irr (k := h) sv.length row hm (Nat.le_refl _) nd0
        have sR := w1.subl2
        have ndR := nd0.sublist sR
        have hy := getD_at (sv := sv) (m := h) hm
        have ndR2 := ndR
        rw [line_back hy] at ndR2
        have w3 := Way.back _ hy (trace_way (ps := ps) (stay := stayF elders none) (sv := sv) irr h (sv.getD h "" :: R) (by omega) ndR2)
        rw [← eR, ← hF] at w3
        rw [tk, eL] at sR
        have whoR : who ∈ R := by
          rcases List.mem_append.mp (w3.sub _ hw) with z | z
          · refine absurd z ?_
            have e4 : sv.take (h + 1) = L1.take (h + 1) := by
              have : (sv ++ row).take (h + 1) = L1.take (h + 1) := by rw [eL, List.take_append_of_le_length (by omega)]
              rw [← this, List.take_append_of_le_length (by omega)]
            rw [e4]
            exact fun z => (List.nodup_append.mp ndL).2.2 who (List.mem_of_mem_take z) who List.mem_cons_self rfl
          · exact z
        obtain ⟨AR, BR, eAR⟩ := List.append_of_mem whoR
        rw [eAR, ← List.append_assoc] at sR
        have sp2 := sub_split ndL sR
        have e4 : sv.take (h + 1) = L1.take (h + 1) := by
          have : (sv ++ row).take (h + 1) = L1.take (h + 1) := by rw [eL, List.take_append_of_le_length (by omega)]
          rw [← this, List.take_append_of_le_length (by omega)]
        have noA : ∀ y ∈ AR, frd ps who y = false := fun y hy => by
          have y1 : y ∈ L1 := by
            have : y ∈ sv.take (h + 1) ++ AR := List.mem_append_right _ hy
            rw [sp2.1] at this
            exact (List.mem_filter.mp this).1
          obtain ⟨j, hj⟩ := List.mem_iff_getElem?.mp y1
          refine hf3 j y (Classical.byContradiction fun c => ?_) hj
          have : y ∈ sv.take (h + 1) := by
            rw [e4]
            exact List.mem_iff_getElem?.mpr ⟨j, by rw [List.getElem?_take, if_pos (by omega)]; exact hj⟩
          rw [eAR] at ndR
          exact (List.nodup_append.mp ndR).2.2 y this y (List.mem_append_left _ hy) rfl
        have neB : BR ≠ [] := fun z => hn (by
          have := nfR who ⟨AR, BR, eAR, (by rw [z]; exact (fun _ h => nomatch h)), .inr ⟨noA, z⟩⟩
          rw [hS] at this
          simpa using this)
        obtain ⟨z, hz⟩ := List.exists_mem_of_ne_nil _ neB
        have zF := w3.stuck (S := elders ++ []) hS ndR hw AR BR eAR (fun z _ hl => nfR z hl) z hz
        have zL : z ∈ L2 := by
          rw [sp2.2] at hz
          exact (List.mem_filter.mp hz).1
        intro e0
        rw [sp.2] at e0
        have := List.filter_eq_nil_iff.mp e0 z zL
        exact this (decide_eq_true zF)
  · exact .inl cf
end
/-! ### promises -/
def reasonOf (ps : List (Str × Str)) (line : List Str) (many : Nat) (there : List Str) (who : Str) : Str × List Str :=
  match (behindL line there who).filter (frd ps who) with
  | f :: _ => ("friend", [f])
  | [] => match lastP (frd ps who) (line.take (line.idxOf who)) with
    | none => ("behind", (behindL line there who).take 1)
    | some h => ("between", (betweenL line there who h).take 1 ++ if h < many then (behindL line there who).take 1 else [])
/-- a reason: where it is, where its names are, who, the word, the names -/
abbrev LR := Addr × Addr × Str × Str × List Str
def ReasonAt (H : Hp) (q : LR) : Prop := TupAt H q.1 [.str q.2.2.1, .str q.2.2.2.1, .ref q.2.1] ∧ TupAt H q.2.1 (q.2.2.2.2.map V.str)
def refsR (rs : List LR) : List V := rs.map fun q => V.ref q.1
def ReasonsAt (H : Hp) (rs : List LR) : Prop := ∀ q ∈ rs, ReasonAt H q
theorem ReasonAt.same {H H' : Hp} {q : LR} (s : Same H H') (h : ReasonAt H q) : ReasonAt H' q := ⟨h.1.same s, h.2.same s⟩
theorem ReasonAt.oth {H H' : Hp} {b : Addr} {q : LR} (s : Oth b H H') (hb : IsBox H b) (h : ReasonAt H q) : ReasonAt H' q := ⟨h.1.oth s hb, h.2.oth s hb⟩
theorem ReasonAt.upd_ {H : Hp} {l : Addr} {ys : List V} {o' : HO} {q : LR} (h : ReasonAt H q) (hl : H l = some (.lst ys)) : ReasonAt (upd H l o') q := ⟨h.1.upd_ hl, h.2.upd_ hl⟩
def spClause (K : PySem.W.Frag) : Sp := fun vs H Q _ => ∃ (d t l : Addr) (ps : List (Str × Str)) (line there : List Str) (who : Str) (many : Nat), vs = [.ref d, .ref t, .int many, .ref l, .str who] ∧ KnAt H d ps ∧ TupAt H t (line.map V.str) ∧ line.Nodup ∧ line.length ≤ 60 ∧ H l = some (.lst (there.map V.str)) ∧ who ∈ line ∧ Tellable ps line many there who ∧
  ∀ T o H', Same H H' → ReasonAt H' (T, o, who, reasonOf ps line many there who) → Q (.ref T) H'
def spPaper (K : PySem.W.Frag) : Sp := fun vs H Q _ => ∃ (a sv r e l : Addr) (ps : List (Str × Str)) (svd row elders left : List Str), vs = [.ref a, .ref sv, .ref r, .ref e, .ref l] ∧ FrAt H a ps ∧ ps.length ≤ 1000 ∧ RowAt H sv svd ∧ RowAt H r row ∧ ButKeeps K H e elders ∧ TupAt H l (left.map V.str) ∧ (svd ++ row).Nodup ∧ svd.length + row.length ≤ 60 ∧ elders.length ≤ 60 ∧ left.length ≤ 60 ∧ (∀ x ∈ left, x ∈ svd ++ row ∧ Tellable ps (svd ++ row) svd.length (left ++ elders) x) ∧
  ∀ p (rs : List LR) H', Same H H' → H p = none → H' p = some (.lst (refsR rs)) → ReasonsAt H' rs → rs.map (fun q => q.2.2) = left.map (fun x => (x, reasonOf ps (svd ++ row) svd.length (left ++ elders) x)) → Q (.ref p) H'
/-- who is left, in the line's order -/
def leftL (ps : List (Str × Str)) (elders svd row : List Str) : List Str := (trace ps (stayF elders none) svd svd.length row).2.filter fun x => !decide (x ∈ elders)
/-- what is told of a line -/
def ToldAt (H : Hp) (T : Addr) (ps : List (Str × Str)) (elders svd row : List Str) : Prop :=
  (leftL ps elders svd row = [] ∧ ∃ (u : Addr) (ds : List LD), TupAt H T [.str "deeds", .ref u] ∧ H u = some (.lst (refsD ds)) ∧ DeedsAt H ds ∧ ds.map (·.2) = (trace ps (stayF elders none) svd svd.length row).1.reverse) ∨
  (leftL ps elders svd row ≠ [] ∧ ∃ (p : Addr) (rs : List LR), TupAt H T [.str "none", .ref p] ∧ H p = some (.lst (refsR rs)) ∧ ReasonsAt H rs ∧ rs.map (fun q => q.2.2) = (leftL ps elders svd row).map (fun x => (x, reasonOf ps (svd ++ row) svd.length (leftL ps elders svd row ++ elders) x)))
theorem ToldAt.same {H H' : Hp} {T : Addr} {ps : List (Str × Str)} {elders svd row : List Str} (s : Same H H') (h : ToldAt H T ps elders svd row) : ToldAt H' T ps elders svd row := by
  rcases h with ⟨h0, u, ds, h1, h2, h3, h4⟩ | ⟨h0, p, rs, h1, h2, h3, h4⟩
  · exact .inl ⟨h0, u, ds, h1.same s, s _ _ h2, h3.same s, h4⟩
  · exact .inr ⟨h0, p, rs, h1.same s, s _ _ h2, (fun q hq => (h3 q hq).same s), h4⟩
theorem ToldAt.oth {H H' : Hp} {b T : Addr} {ps : List (Str × Str)} {elders svd row : List Str} (s : Oth b H H') (hb : IsBox H b) (h : ToldAt H T ps elders svd row) : ToldAt H' T ps elders svd row := by
  rcases h with ⟨h0, u, ds, h1, h2, h3, h4⟩ | ⟨h0, p, rs, h1, h2, h3, h4⟩
  · exact .inl ⟨h0, u, ds, h1.oth s hb, s _ _ (hb.ne_refs (xs := ds.map (·.1)) (by rw [List.map_map]; exact h2)) h2, (fun q hq => (h3 q hq).oth s hb), h4⟩
  · exact .inr ⟨h0, p, rs, h1.oth s hb, s _ _ (hb.ne_refs (xs := rs.map (·.1)) (by rw [List.map_map]; exact h2)) h2, (fun q hq => (h3 q hq).oth s hb), h4⟩
/-- those left and the elders are those in the last row -/
theorem left_there {ps : List (Str × Str)} {elders svd row : List Str} (irr : Irr ps) (nd : (svd ++ row).Nodup) (he : ∀ x ∈ elders, x ∈ svd ++ row) (x : Str) : x ∈ leftL ps elders svd row ++ elders ↔ x ∈ (trace ps (stayF elders none) svd svd.length row).2 := by
  have tk : svd.take svd.length = svd := List.take_of_length_le (Nat.le_refl _)
  have w := trace_way (ps := ps) (stay := stayF elders none) (sv := svd) irr svd.length row (Nat.le_refl _) (by rw [tk]; exact nd)
  unfold leftL
  rw [List.mem_append, List.mem_filter]
  constructor
  · rintro (h | h)
    · exact h.1
    · have := w.keepB (x := x) (fun _ _ _ => List.mem_append_left _ h) (by rw [tk]; exact he x h)
      simpa using this
  · intro h
    by_cases c : x ∈ elders
    · exact .inr c
    · exact .inl ⟨h, by simpa using c⟩
theorem left_sub {ps : List (Str × Str)} {elders svd row : List Str} (irr : Irr ps) (nd : (svd ++ row).Nodup) : (leftL ps elders svd row).Sublist (svd ++ row) := by
  have tk : svd.take svd.length = svd := List.take_of_length_le (Nat.le_refl _)
  have w := trace_way (ps := ps) (stay := stayF elders none) (sv := svd) irr svd.length row (Nat.le_refl _) (by rw [tk]; exact nd)
  have := w.subl
  rw [tk] at this
  exact List.filter_sublist.trans this
theorem left_tell {ps : List (Str × Str)} {elders svd row : List Str} (irr : Irr ps) (nd : (svd ++ row).Nodup) (he : ∀ x ∈ elders, x ∈ svd ++ row) {x : Str} (hx : x ∈ leftL ps elders svd row) : Tellable ps (svd ++ row) svd.length (leftL ps elders svd row ++ elders) x := by
  obtain ⟨h1, h2⟩ := List.mem_filter.mp hx
  exact tellable irr nd h1 (by simpa using h2) fun y _ => left_there irr nd he y
end Lk
set_option maxRecDepth 100000
set_option maxHeartbeats 4000000
namespace Lk
open PySem PySem.Spec PyProof.Rows L2
/-! ### goings in any order -/
section
variable {ps : List (Str × Str)} {stay : Nat → List Str} {sv : List Str}
end
theorem left_nold {ps : List (Str × Str)} {elders svd row : List Str} {x : Str} (h : x ∈ leftL ps elders svd row) : x ∉ elders := by
  have := (List.mem_filter.mp h).2
  simpa using this
/-! ### lists of texts that aren't alike -/
section
variable {X : Cx}
def rNeL : R2 := fun x y H Q => ∃ (a b : Addr) (xs ys : List Str), x = .ref a ∧ y = .ref b ∧ H a = some (.lst (xs.map V.str)) ∧ H b = some (.lst (ys.map V.str)) ∧ Goods xs ∧ Goods ys ∧ Q (.bl (!decide (xs = ys))) H
theorem op_neL (hu : X.A.units + 64 < cLine) : OpR X (compareOp .NotEq) rNeL := by
  intro pins s σ H x y v u Q I rx ry h
  obtain ⟨a, b, xs, ys, rfl, rfl, ha, hb, g1, g2, q⟩ := h
  refine op_neD hu pins s σ H _ _ v u Q I rx ry ⟨_, _, dp_list ha, dp_list hb, sh_list g1, sh_list g2, ?_⟩
  have e : PyData.eqv (.list (xs.map .str)) (.list (ys.map .str)) = decide (xs = ys) := by
    rw [PyData.eqv, eqv_strs]
  rw [e]
  exact q
end
/-! ### promises -/
end Lk
set_option maxRecDepth 100000
set_option maxHeartbeats 4000000
namespace Lk
open PySem PySem.Spec PyProof.Rows L2
/-! ### any list beside [] -/
section
variable {X : Cx}
end
/-! ### a reason as data -/
def reasonD (q : LR) : PyData := .tuple [.str q.2.2.1, .str q.2.2.2.1, .tuple (q.2.2.2.2.map .str)]
theorem dp_reason {K : PySem.W.Frag} {H : Hp} {q : LR} (h : ReasonAt H q) : Dp K H (.ref q.1) (reasonD q) :=
  .tup h.1.sq (.cons (.str _) (.cons (.str _) (.cons (.tup h.2.sq (dp_strs _)) .nil)))
theorem dp_reasonsA {K : PySem.W.Frag} {H : Hp} : ∀ {rs : List LR}, ReasonsAt H rs → DpAll K H (refsR rs) (rs.map reasonD)
  | [], _ => .nil
  | q :: rs, h => .cons (dp_reason (h q List.mem_cons_self)) (dp_reasonsA (rs := rs) fun c hc => h c (List.mem_cons_of_mem _ hc))
/-! ### what a reason says -/
def ReasonOk (ps : List (Str × Str)) (line : List Str) (many : Nat) (x w : Str) (os : List Str) : Prop :=
  (∃ f, w = "friend" ∧ os = [f] ∧ f ∈ line ∧ line.idxOf x < line.idxOf f ∧ frd ps x f = true) ∨
  (∃ z, w = "behind" ∧ os = [z] ∧ z ∈ line ∧ line.idxOf x < line.idxOf z ∧ lastP (frd ps x) (line.take (line.idxOf x)) = none) ∨
  (∃ h y, w = "between" ∧ lastP (frd ps x) (line.take (line.idxOf x)) = some h ∧ y ∈ line ∧ h < line.idxOf y ∧ line.idxOf y < line.idxOf x ∧ ((h < many ∧ ∃ z, os = [y, z] ∧ z ∈ line ∧ line.idxOf x < line.idxOf z) ∨ (¬ h < many ∧ os = [y])))
theorem ReasonOk.mem {ps : List (Str × Str)} {line : List Str} {many : Nat} {x w : Str} {os : List Str} (h : ReasonOk ps line many x w os) : ∀ y ∈ os, y ∈ line := by
  rcases h with ⟨f, _, rfl, h, _⟩ | ⟨z, _, rfl, h, _⟩ | ⟨h, y, _, _, hy, _, _, ⟨_, z, rfl, hz, _⟩ | ⟨_, rfl⟩⟩
  · intro y hy
    rw [List.mem_singleton.mp hy]
    exact h
  · intro y hy
    rw [List.mem_singleton.mp hy]
    exact h
  · intro u hu
    rcases List.mem_cons.mp hu with z' | z'
    · rw [z']
      exact hy
    · rw [List.mem_singleton.mp z']
      exact hz
  · intro u hu
    rw [List.mem_singleton.mp hu]
    exact hy
theorem behind_has {line there : List Str} {x y : Str} (nd : line.Nodup) (h : y ∈ behindL line there x) : y ∈ line ∧ y ∈ there ∧ line.idxOf x < line.idxOf y := by
  obtain ⟨h1, h2⟩ := List.mem_filter.mp h
  obtain ⟨k, hk⟩ := List.mem_iff_getElem?.mp h1
  rw [List.getElem?_drop] at hk
  have := idx_at nd hk
  exact ⟨List.mem_of_getElem? hk, of_decide_eq_true h2, by omega⟩
theorem between_has {line there : List Str} {x y : Str} {h : Nat} (nd : line.Nodup) (hm : y ∈ betweenL line there x h) : y ∈ line ∧ y ∈ there ∧ h < line.idxOf y ∧ line.idxOf y < line.idxOf x := by
  obtain ⟨h1, h2⟩ := List.mem_filter.mp hm
  obtain ⟨k, hk⟩ := List.mem_iff_getElem?.mp h1
  rw [List.getElem?_drop] at hk
  have lt : h + 1 + k < line.idxOf x := by
    have := (List.getElem?_eq_some_iff.mp hk).1
    rw [List.length_take] at this
    omega
  rw [List.getElem?_take, if_pos lt] at hk
  have := idx_at nd hk
  exact ⟨List.mem_of_getElem? hk, of_decide_eq_true h2, by omega, by omega⟩
theorem one_of {xs : List Str} (h : xs ≠ []) : ∃ x r, xs = x :: r := by
  cases xs with
  | nil => exact absurd rfl h
  | cons x r => exact ⟨x, r, rfl⟩
/-- what is told bars, by those who are there -/
theorem reason_bars {ps : List (Str × Str)} {line there : List Str} {many : Nat} {x : Str} (nd : line.Nodup) (tel : Tellable ps line many there x) :
    ReasonOk ps line many x (reasonOf ps line many there x).1 (reasonOf ps line many there x).2 ∧ ∀ y ∈ (reasonOf ps line many there x).2, y ∈ there := by
  by_cases c : (behindL line there x).filter (frd ps x) = []
  · rcases tel with z | ⟨eh, nb⟩ | ⟨h, eh, nbw, nb⟩
    · exact absurd c z
    · obtain ⟨z, r, ez⟩ := one_of nb
      have er : reasonOf ps line many there x = (("behind" : Str), [z]) := by
        unfold reasonOf
        rw [c, eh, ez]
        rfl
      obtain ⟨m1, m2, m3⟩ := behind_has nd (ez ▸ List.mem_cons_self : z ∈ behindL line there x)
      rw [er]
      refine ⟨.inr (.inl ⟨z, rfl, rfl, m1, m3, eh⟩), fun y hy => ?_⟩
      rw [List.mem_singleton.mp hy]
      exact m2
    · obtain ⟨y, r, ey⟩ := one_of nbw
      obtain ⟨m1, m2, m3, m4⟩ := between_has nd (ey ▸ List.mem_cons_self : y ∈ betweenL line there x h)
      by_cases hm : h < many
      · obtain ⟨z, r2, ez⟩ := one_of (nb hm)
        obtain ⟨k1, k2, k3⟩ := behind_has nd (ez ▸ List.mem_cons_self : z ∈ behindL line there x)
        have er : reasonOf ps line many there x = (("between" : Str), [y, z]) := by
          unfold reasonOf
          rw [c, eh]
          show (("between" : Str), (betweenL line there x h).take 1 ++ (if h < many then (behindL line there x).take 1 else [])) = _
          rw [ey, ez, if_pos hm]
          rfl
        rw [er]
        refine ⟨.inr (.inr ⟨h, y, rfl, eh, m1, m3, m4, .inl ⟨hm, z, rfl, k1, k3⟩⟩), fun u hu => ?_⟩
        rcases List.mem_cons.mp hu with e | e
        · rw [e]
          exact m2
        · rw [List.mem_singleton.mp e]
          exact k2
      · have er : reasonOf ps line many there x = (("between" : Str), [y]) := by
          unfold reasonOf
          rw [c, eh]
          show (("between" : Str), (betweenL line there x h).take 1 ++ (if h < many then (behindL line there x).take 1 else [])) = _
          rw [ey, if_neg hm]
          rfl
        rw [er]
        refine ⟨.inr (.inr ⟨h, y, rfl, eh, m1, m3, m4, .inr ⟨hm, rfl⟩⟩), fun u hu => ?_⟩
        rw [List.mem_singleton.mp hu]
        exact m2
  · obtain ⟨f, r, ef⟩ := one_of c
    have er : reasonOf ps line many there x = (("friend" : Str), [f]) := by
      unfold reasonOf
      rw [ef]
    have mf : f ∈ (behindL line there x).filter (frd ps x) := ef ▸ List.mem_cons_self
    obtain ⟨m0, mfr⟩ := List.mem_filter.mp mf
    obtain ⟨m1, m2, m3⟩ := behind_has nd m0
    rw [er]
    refine ⟨.inl ⟨f, rfl, rfl, m1, m3, mfr⟩, fun y hy => ?_⟩
    rw [List.mem_singleton.mp hy]
    exact m2
/-! ### the deeds told are a history -/
section
variable {ps : List (Str × Str)} {stay : Nat → List Str} {sv : List Str}
theorem Way.len {m0 m : Nat} {row fin : List Str} {ds : List Deed} (h : Way ps stay sv m0 m row ds fin) : (sv.take m ++ row).Nodup → ds.length + fin.length + 2 * m0 = row.length + 2 * m := by
  induction h with
  | done row => exact fun _ => by simp
  | @go m row ds fin x hx hs t ih =>
    intro nd
    have := ih (nd_rem nd)
    have rl := rem_len (nd_right nd) hx.mem
    rw [List.length_cons]
    omega
  | @back m row ds fin y hy t ih =>
    intro nd
    rw [line_back hy] at nd
    have := ih nd
    rw [List.length_cons] at this
    rw [List.length_cons]
    omega
theorem way_fin {elders row fin : List Str} {ds : List Deed} {ws : Option (Str × Nat)} (nd : (sv ++ row).Nodup) (sub : elders.Sublist (sv ++ row)) (w : Way ps (stayF elders ws) sv 0 sv.length row ds fin) (hf : ∀ x ∈ fin, x ∈ elders) : fin = elders := by
  have tk : sv.take sv.length = sv := List.take_of_length_le (Nat.le_refl _)
  have s1 := w.subl
  rw [tk] at s1
  refine sub_eq nd s1 sub fun x => ⟨hf x, fun hx => ?_⟩
  have := w.keepB (x := x) (fun _ _ _ => List.mem_append_left _ hx) (by rw [tk]; exact sub.subset hx)
  simpa using this
theorem way_hist {elders row : List Str} {ds : List Deed} {ws : Option (Str × Nat)} (irr : Irr ps) (nd : (sv ++ row).Nodup) (w : Way ps (stayF elders ws) sv 0 sv.length row ds elders) : goD ps ds.reverse (elders, []) elders = some (row, sv) := by
  have tk : sv.take sv.length = sv := List.take_of_length_le (Nat.le_refl _)
  have := way_go irr w (by rw [tk]; exact nd) elders (fun x hx => List.mem_append_right _ hx)
  rw [tk] at this
  exact this
theorem told_go {elders row : List Str} (irr : Irr ps) (nd : (sv ++ row).Nodup) (sub : elders.Sublist (sv ++ row)) (h0 : leftL ps elders sv row = []) :
    goD ps (trace ps (stayF elders none) sv sv.length row).1.reverse (elders, []) elders = some (row, sv) ∧ elders.length + (trace ps (stayF elders none) sv sv.length row).1.reverse.length = row.length + 2 * sv.length := by
  have tk : sv.take sv.length = sv := List.take_of_length_le (Nat.le_refl _)
  have w := trace_way (ps := ps) (stay := stayF elders none) (sv := sv) irr sv.length row (Nat.le_refl _) (by rw [tk]; exact nd)
  have ef : (trace ps (stayF elders none) sv sv.length row).2 = elders := way_fin nd sub w fun x hx => by
    have h0' : ((trace ps (stayF elders none) sv sv.length row).2.filter fun x => !decide (x ∈ elders)) = [] := h0
    have := (List.filter_eq_nil_iff.mp h0') x hx
    simpa using this
  rw [ef] at w
  refine ⟨way_hist irr nd w, ?_⟩
  have := w.len (by rw [tk]; exact nd)
  rw [List.length_reverse]
  omega
end
/-! ### promises -/
/-- a paper, by this law's own look -/
def PaperOk (ps : List (Str × Str)) (olds gn st : List Str) (rs : List LR) : Prop :=
  rs ≠ [] ∧ (rs.map fun q => q.2.2.1).Nodup ∧ (∀ q ∈ rs, q.2.2.1 ∈ gn ++ st ∧ q.2.2.1 ∉ olds) ∧ (∀ q ∈ rs, ∀ y ∈ q.2.2.2.2, y ∈ (rs.map fun q => q.2.2.1) ∨ y ∈ olds) ∧ ∀ q ∈ rs, ReasonOk ps (gn ++ st) gn.length q.2.2.1 q.2.2.2.1 q.2.2.2.2
theorem good_words : Good "friend" ∧ Good "behind" ∧ Good "between" := by
  refine ⟨?_, ?_, ?_⟩ <;> (show PyData.strOk _ = true; decide +kernel)
theorem ReasonOk.good {ps : List (Str × Str)} {line : List Str} {many : Nat} {x w : Str} {os : List Str} (h : ReasonOk ps line many x w os) : Good w := by
  rcases h with ⟨f, rfl, _⟩ | ⟨z, rfl, _⟩ | ⟨h, y, rfl, _⟩
  · exact good_words.1
  · exact good_words.2.1
  · exact good_words.2.2
/-- the paper told is one -/
theorem told_paper {ps : List (Str × Str)} {olds gn st : List Str} {rs : List LR} (irr : Irr ps) (nd : (gn ++ st).Nodup) (sub : olds.Sublist (gn ++ st)) (ne : leftL ps olds gn st ≠ [])
    (e : rs.map (fun q => q.2.2) = (leftL ps olds gn st).map (fun x => (x, reasonOf ps (gn ++ st) gn.length (leftL ps olds gn st ++ olds) x))) : PaperOk ps olds gn st rs ∧ (rs.map fun q => q.2.2.1) = leftL ps olds gn st := by
  have em : (rs.map fun q => q.2.2.1) = leftL ps olds gn st := by
    have := congrArg (List.map Prod.fst) e
    rw [List.map_map, List.map_map] at this
    exact this.trans (List.map_id _)
  have each : ∀ q ∈ rs, q.2.2.1 ∈ leftL ps olds gn st ∧ q.2.2.2 = reasonOf ps (gn ++ st) gn.length (leftL ps olds gn st ++ olds) q.2.2.1 := fun q hq => by
    have : q.2.2 ∈ rs.map (fun q => q.2.2) := List.mem_map.mpr ⟨q, hq, rfl⟩
    rw [e] at this
    obtain ⟨x, hx, ex⟩ := List.mem_map.mp this
    rw [← ex]
    exact ⟨hx, rfl⟩
  have ls := left_sub (elders := olds) irr nd
  refine ⟨⟨fun z => ?_, ?_, fun q hq => ⟨ls.subset (each q hq).1, left_nold (each q hq).1⟩, fun q hq y hy => ?_, fun q hq => ?_⟩, em⟩
  · rw [z] at em
    exact ne em.symm
  · rw [em]
    exact nd.sublist ls
  · obtain ⟨h1, h2⟩ := each q hq
    have := (reason_bars nd (left_tell irr nd (fun x hx => sub.subset hx) h1)).2 y (by rw [← h2]; exact hy)
    rw [em]
    exact List.mem_append.mp this
  · obtain ⟨h1, h2⟩ := each q hq
    have := (reason_bars nd (left_tell irr nd (fun x hx => sub.subset hx) h1)).1
    rw [← h2] at this
    exact this
end Lk
set_option maxRecDepth 100000
set_option maxHeartbeats 4000000
namespace Lk
open PySem PySem.Spec PyProof.Rows L2
/-! ### set(ns), ns a list of ints, some of them twice -/
section
variable {P : Program} {w : World} {A : Around} {E : Value → Shared → Prop} {s : Shared}
end
section
variable {X : Cx}
end
end Lk
set_option maxRecDepth 100000
set_option maxHeartbeats 4000000
namespace Lk
open PySem PySem.Spec PyProof.Rows L2
/-! ### how many ways are left, at most -/
/-! ### histories begun -/
structure WE where
  T : Addr
  d : Addr
  t : Addr
  ds : List LD
  here : List Str
  m : Nat
def EntAt (H : Hp) (e : WE) : Prop := TupAt H e.T [.ref e.d, .ref e.t, .int (e.m : Nat)] ∧ TupAt H e.d (refsD e.ds) ∧ DeedsAt H e.ds ∧ TupAt H e.t (e.here.map V.str)
def EntsAt (H : Hp) (es : List WE) : Prop := ∀ e ∈ es, EntAt H e
theorem EntAt.same {H H' : Hp} {e : WE} (s : Same H H') (h : EntAt H e) : EntAt H' e := ⟨h.1.same s, h.2.1.same s, h.2.2.1.same s, h.2.2.2.same s⟩
theorem EntsAt.same {H H' : Hp} {es : List WE} (s : Same H H') (h : EntsAt H es) : EntsAt H' es := fun e he => (h e he).same s
theorem EntAt.upd_ {H : Hp} {l : Addr} {ys : List V} {o' : HO} {e : WE} (h : EntAt H e) (hl : H l = some (.lst ys)) : EntAt (upd H l o') e :=
  ⟨h.1.upd_ hl, h.2.1.upd_ hl, fun q hq => (h.2.2.1 q hq).upd_ hl, h.2.2.2.upd_ hl⟩
/-- what of the line's history has been gone through -/
structure EntOk (ps : List (Str × Str)) (olds gn st : List Str) (k : Nat) (e : WE) : Prop where
  len : e.ds.length = k
  go : goD ps (e.ds.map (·.2)) (olds, []) olds = some (e.here, gn.take e.m)
  le : e.m ≤ gn.length
  sub : e.here.Sublist ((gn ++ st).drop e.m)
def leftN (gn st : List Str) (e : WE) : Nat := (gn ++ st).length - e.m - e.here.length
section
variable {ps : List (Str × Str)} {olds gn st : List Str} {k : Nat} {e : WE}
theorem take_line {m : Nat} (h : m ≤ gn.length) : (gn ++ st).take m = gn.take m := List.take_append_of_le_length h
theorem EntOk.new (h : EntOk ps olds gn st k e) (nd : (gn ++ st).Nodup) {x : Str} (hx : x ∈ (gn ++ st).drop e.m) (nx : x ∉ e.here) : x ∉ olds ++ comers (e.ds.map (·.2)) := fun z => by
  have pm := go_perm _ _ _ _ h.go
  have : x ∈ comers (e.ds.map (·.2)) ++ ([] ++ olds) := by
    rcases List.mem_append.mp z with u | u
    · exact List.mem_append_right _ (by simpa using u)
    · exact List.mem_append_left _ u
  rcases List.mem_append.mp (pm.mem_iff.mpr this) with u | u
  · have u' : x ∈ (gn ++ st).take e.m := by rw [take_line h.le]; exact u
    have nd' := nd
    rw [← List.take_append_drop e.m (gn ++ st)] at nd'
    exact (List.nodup_append.mp nd').2.2 x u' x hx rfl
  · exact nx u
/-- somebody more comes -/
theorem EntOk.comes (h : EntOk ps olds gn st k e) (nd : (gn ++ st).Nodup) {x : Str} (hx : x ∈ (gn ++ st).drop e.m) (nx : x ∉ e.here) {T d t a : Addr} (hs : (comeTo ps e.here x).Sublist ((gn ++ st).drop e.m)) : EntOk ps olds gn st (k + 1) ⟨T, d, t, e.ds ++ [((a, some x) : LD)], comeTo ps e.here x, e.m⟩ := by
  refine ⟨by rw [List.length_append, h.len]; rfl, ?_, h.le, hs⟩
  show goD ps ((e.ds ++ [((a, some x) : LD)]).map (·.2)) (olds, []) olds = some (comeTo ps e.here x, gn.take e.m)
  rw [List.map_append]
  show goD ps (e.ds.map (·.2) ++ [some x]) (olds, []) olds = _
  rw [goD_snoc, h.go]
  show (if x ∈ olds ++ comers (e.ds.map (·.2)) then none else some (comeTo ps e.here x, gn.take e.m)) = _
  rw [if_neg (h.new nd hx nx)]
/-- how many can come -/
theorem EntOk.few (h : EntOk ps olds gn st k e) (nd : (gn ++ st).Nodup) : (((gn ++ st).drop e.m).filter fun x => !decide (x ∈ e.here)).length = leftN gn st e := by
  have ndd := nd.sublist (List.drop_sublist e.m (gn ++ st))
  have e1 := sub_filter h.sub ndd
  have p := (List.filter_append_perm (fun x => decide (x ∈ e.here)) ((gn ++ st).drop e.m)).length_eq
  rw [← e1, List.length_append, List.length_drop] at p
  unfold leftN
  omega
theorem goD_pre : ∀ (a b : List Deed) {s : List Str × List Str} {met : List Str} {s' : List Str × List Str}, goD ps (a ++ b) s met = some s' → ∃ s1, goD ps a s met = some s1 ∧ goD ps b s1 (met ++ comers a) = some s'
  | [], b, s, met, s', h => ⟨s, rfl, by rw [show met ++ comers [] = met from List.append_nil met]; exact h⟩
  | d :: a, b, s, met, s', h => by
    have h' : (match stepD ps s met d with | none => none | some s2 => goD ps (a ++ b) s2 (met ++ d.toList)) = some s' := h
    cases e : stepD ps s met d with
    | none => rw [e] at h'; cases h'
    | some s2 =>
      rw [e] at h'
      obtain ⟨s1, h1, h2⟩ := goD_pre a b (s := s2) (met := met ++ d.toList) h'
      refine ⟨s1, ?_, ?_⟩
      · show (match stepD ps s met d with | none => none | some s2 => goD ps a s2 (met ++ d.toList)) = some s1
        rw [e]
        exact h1
      · have ec : met ++ d.toList ++ comers a = met ++ comers (d :: a) := by
          rw [List.append_assoc]
          cases d with
          | none => rfl
          | some x => rfl
        rw [← ec]
        exact h2
end
/-! ### long lists -/
section
variable {J : It} {n : Nat} {G : Hp → Prop} {Y : Nat → Hp → V → Hp → Prop} {g : TG} {tt : TT} {te : TE} {vs : List Nat} {σ : L2.St} {H1 : Hp} {D : Addr} {Qd : Hp → Prop}
end
theorem mem_comers {x : Str} {ds : List Deed} : x ∈ comers ds ↔ some x ∈ ds := by
  unfold comers
  rw [List.mem_filterMap]
  constructor
  · rintro ⟨d, h1, h2⟩
    have : d = some x := h2
    exact this ▸ h1
  · exact fun h => ⟨_, h, rfl⟩
/-! ### promises -/
abbrev LW := Addr × List LD
def WaysAt (H : Hp) (ws : List LW) : Prop := ∀ q ∈ ws, TupAt H q.1 (refsD q.2) ∧ DeedsAt H q.2
theorem WaysAt.same {H H' : Hp} {ws : List LW} (s : Same H H') (h : WaysAt H ws) : WaysAt H' ws := fun q hq => ⟨(h q hq).1.same s, (h q hq).2.same s⟩
end Lk
set_option maxRecDepth 100000
set_option maxHeartbeats 4000000
namespace Lk
open PySem PySem.Spec PyProof.Rows L2
/-! ### ways as data -/
section
variable {K : PySem.W.Frag} {H : Hp}
end
end Lk
set_option maxRecDepth 100000
set_option maxHeartbeats 4000000
namespace Lk
open PySem PySem.Spec PyProof.Rows L2
/-! ### who was ever there -/
def BeenAt (H : Hp) (d : Addr) (met : List Str) : Prop := ∃ kvs, H d = some (.dK kvs) ∧ kvs.length ≤ met.length ∧ ∀ y, (valV kvs (.inr y)).isSome = decide (y ∈ met)
theorem BeenAt.same {H H' : Hp} {d : Addr} {met : List Str} (s : Same H H') (h : BeenAt H d met) : BeenAt H' d met := by
  obtain ⟨kvs, h1, h2, h3⟩ := h
  exact ⟨kvs, s _ _ h1, h2, h3⟩
theorem TupAt.updK {H : Hp} {l t : Addr} {xs : List V} {kvs : List (Key × V)} {o' : HO} (h : TupAt H t xs) (hl : H l = some (.dK kvs)) : TupAt (upd H l o') t xs := by
  obtain ⟨o, h1, h2⟩ := h
  exact ⟨o, h1, (upd_ne (ne_of h2 hl (fun z => nomatch z))).trans h2⟩
/-! ### promises -/
def NamesD (ds : List LD) : Prop := ∀ q ∈ ds, ∀ x, q.2 = some x → NameOk x
def spReads : Sp := fun vs H Q _ => ∃ (T : Addr) (d : Deed), vs = [.ref T] ∧ TupAt H T ((deedL d).map V.str) ∧ (∀ x, d = some x → NameOk x) ∧ ∀ H', Same H H' → Q (.bl true) H'
def spCanBe : Sp := fun vs H Q _ => ∃ (T h d : Addr) (dd : Deed) (row met : List Str), vs = [.ref T, .ref h, .ref d] ∧ TupAt H T ((deedL dd).map V.str) ∧ TupAt H h (row.map V.str) ∧ BeenAt H d met ∧ (∀ x, dd = some x → x ∉ met) ∧ (dd = none → row ≠ []) ∧ ∀ H', Same H H' → Q (.bl true) H'
def spDone : Sp := fun vs H Q _ => ∃ (a p e : Addr) (ps : List (Str × Str)) (olds st gn : List Str) (ds : List LD), vs = [.ref a, .ref p, .ref e] ∧ FrAt H a ps ∧ ps.length ≤ 1000 ∧ H p = some (.lst (refsD ds)) ∧ DeedsAt H ds ∧ NamesD ds ∧ RowAt H e olds ∧ olds.length + ds.length ≤ 90 ∧ goD ps (ds.map (·.2)) (olds, []) olds = some (st, gn) ∧
  ∀ T g' t' H', Same H H' → TupAt H' T [.ref g', .ref t'] → TupAt H' g' (gn.map V.str) → TupAt H' t' (st.map V.str) → Q (.ref T) H'
def spShowsH : Sp := fun vs H Q _ => ∃ (a sv r p e : Addr) (ps : List (Str × Str)) (olds gn st : List Str) (ds : List LD), vs = [.ref a, .ref sv, .ref r, .ref p, .ref e] ∧ FrAt H a ps ∧ ps.length ≤ 1000 ∧ RowAt H sv gn ∧ RowAt H r st ∧ H p = some (.lst (refsD ds)) ∧ DeedsAt H ds ∧ NamesD ds ∧ RowAt H e olds ∧ olds.length + ds.length ≤ 90 ∧ Goods (gn ++ st) ∧ goD ps (ds.map (·.2)) (olds, []) olds = some (st, gn) ∧
  ∀ H', Same H H' → Q (.bl true) H'
/-! ### one more is served, one more comes -/
theorem hist_names {ps : List (Str × Str)} {olds gn st : List Str} {ds : List LD} (nm : ∀ x ∈ gn ++ st, NameOk x) (go : goD ps (ds.map (·.2)) (olds, []) olds = some (st, gn)) : NamesD ds := fun qd hqd y hy => by
  have pm' : (gn ++ st).Perm (comers (ds.map (·.2)) ++ olds) := by simpa using go_perm _ _ _ _ go
  exact nm y (pm'.mem_iff.mpr (List.mem_append_left _ (mem_comers.mpr (List.mem_map.mpr ⟨qd, hqd, hy⟩))))
/-! ### two tuples of texts -/
theorem eqv_two (a b c d : List Str) : PyData.eqv (.tuple [.tuple (a.map .str), .tuple (b.map .str)]) (.tuple [.tuple (c.map .str), .tuple (d.map .str)]) = (decide (a = c) && decide (b = d)) := by
  simp [PyData.eqv, PyData.eqvAll, eqv_strs]
theorem sh_two {a b : List Str} (h1 : Goods a) (h2 : Goods b) : SeqAt.shaped (.tuple [.tuple (a.map .str), .tuple (b.map .str)]) = true := by
  show (PyData.canLay0 (.tuple [.tuple (a.map .str), .tuple (b.map .str)]) && decide (PyData.depth (.tuple [.tuple (a.map .str), .tuple (b.map .str)]) ≤ 64)) = true
  simp [PyData.canLay0, PyData.canLayAll0, PyData.depth, PyData.depthAll, lay_strs h1, lay_strs h2, dep_strs]
theorem dp_two {K : PySem.W.Frag} {H : Hp} {T g t : Addr} {a b : List Str} (hT : SqT K H T [.ref g, .ref t]) (hg : SqT K H g (a.map V.str)) (ht : SqT K H t (b.map V.str)) : Dp K H (.ref T) (.tuple [.tuple (a.map .str), .tuple (b.map .str)]) :=
  .tup hT (.cons (.tup hg (dp_strs a)) (.cons (.tup ht (dp_strs b)) .nil))
/-- a history told, or none -/
def TellAt (H : Hp) (T : Addr) (ps : List (Str × Str)) (olds gn st : List Str) : Prop :=
  (∃ (u : Addr) (ds : List LD), TupAt H T [.str "deeds", .ref u] ∧ H u = some (.lst (refsD ds)) ∧ DeedsAt H ds ∧ goD ps (ds.map (·.2)) (olds, []) olds = some (st, gn) ∧ olds.length + ds.length ≤ st.length + 2 * gn.length) ∨
  (∃ (p : Addr), TupAt H T [.str "none", .ref p])
theorem TellAt.same {H H' : Hp} {T : Addr} {ps : List (Str × Str)} {olds gn st : List Str} (s : Same H H') (h : TellAt H T ps olds gn st) : TellAt H' T ps olds gn st := by
  rcases h with ⟨u, ds, h1, h2, h3, h4⟩ | ⟨p, h1⟩
  · exact .inl ⟨u, ds, h1.same s, s _ _ h2, h3.same s, h4⟩
  · exact .inr ⟨p, h1.same s⟩
theorem ToldAt.tell {H : Hp} {T : Addr} {ps : List (Str × Str)} {olds gn st : List Str} (irr : Irr ps) (nd : (gn ++ st).Nodup) (sub : olds.Sublist (gn ++ st)) (h : ToldAt H T ps olds gn st) : TellAt H T ps olds gn st := by
  rcases h with ⟨h0, u, ds, h1, h2, h3, h4⟩ | ⟨h0, p, rs, h1, _⟩
  · obtain ⟨go, lg⟩ := told_go irr nd sub h0
    rw [← h4] at go lg
    rw [List.length_map] at lg
    exact .inl ⟨u, ds, h1, h2, h3, go, by omega⟩
  · exact .inr ⟨p, h1⟩
end Lk
set_option maxRecDepth 100000
set_option maxHeartbeats 4000000
namespace Lk
open PySem PySem.Spec PyProof.Rows L2
/-! ### promises -/
end Lk
set_option maxRecDepth 100000
set_option maxHeartbeats 4000000
namespace Lk
open PySem PySem.Spec PyProof.Rows L2
/-! ### all are served, each one alone in the row -/
section
variable {ps : List (Str × Str)} {pool : List Str}
end
end Lk
set_option maxRecDepth 100000
set_option maxHeartbeats 4000000
namespace Lk
open PySem PySem.Spec PyProof.Rows L2
/-! ### len(set(xs)), xs a list of texts, some of them twice -/
section
variable {P : Program} {w : World} {A : Around} {E : Value → Shared → Prop} {s : Shared}
theorem strs_loopD {R : Result → Shared → Prop} {I S : Addr} {fp wr : List Addr} {G : Array GenState → Array GenState → Prop} {n : Nat} {Pv : Nat → Value → Prop} {St : Nat → Shared → Prop}
    (W : WalksS P w A.in1 I fp wr G n Pv St) (nf : S ∉ fp) {xs : List Str} (en : xs.length = n) (few : ∀ us : List Str, us.Nodup → (∀ y ∈ us, y ∈ xs) → us.length + 1 < scanBound) (hv : ∀ i v, Pv i v → ∃ x t, xs[i]? = some x ∧ v = .str x t) :
    ∀ (m i : Nat) (s : Shared) (us : List Str), i + m = n → St i s → us.Nodup → (∀ y, y ∈ us ↔ y ∈ xs.take i) → s.heap.SetOf (PySem.strKind P w) S (fun y => decide (y ∈ us)) us.length →
      (∀ (s' : Shared) (us : List Str), Moved (S :: wr) G s s' → us.Nodup → (∀ y, y ∈ us ↔ y ∈ xs) → s'.heap.SetOf (PySem.strKind P w) S (fun y => decide (y ∈ us)) us.length → R (.ok (.ret .none)) s') →
      codeAny (model P w) A (.builtin "set.update.loop" ⟨[.ref S, .ref I], []⟩) R s := by
  have nw : S ∉ wr := fun h => nf (W.sub _ h)
  have more : ∀ b ∈ wr, b ∈ S :: wr := fun b => List.mem_cons_of_mem _
  have stays : ∀ {s s' : Shared} {T : Str → Bool} {c : Nat}, Moved wr G s s' → s.heap.SetOf (PySem.strKind P w) S T c → s'.heap.SetOf (PySem.strKind P w) S T c := fun hm ⟨o, es, ep, t, ho, rest⟩ => ⟨o, es, ep, t, hm.heap S _ nw ho, rest⟩
  intro m
  induction m with
  | zero =>
    intro i s us e st nu mu so fin
    have ei : i = n := by omega
    subst ei
    refine codeAny_builtin PyProof.Rows.F.entry_set_update_loop ?_
    rw [Around.under_plainId PyProof.Rows.F.plain_set_update_loop _]
    show wpAny _ A.in1 (pyNext (.ref I) >>= _) _ _ s
    refine wpAny_bind (W.done s _ _ st fun s' hm => ?_)
    rw [← en, List.take_length] at mu
    exact wpAny_pure (fin s' us (hm.mono more) nu mu (stays hm so))
  | succ m ih =>
    intro i s us e st nu mu so fin
    refine codeAny_builtin PyProof.Rows.F.entry_set_update_loop ?_
    rw [Around.under_plainId PyProof.Rows.F.plain_set_update_loop _]
    show wpAny _ A.in1 (pyNext (.ref I) >>= _) _ _ s
    refine wpAny_bind (W.item i s _ _ (by omega) st fun v s' hP st' hm => ?_)
    obtain ⟨x, t, hx, rfl⟩ := hv i v hP
    have so' := stays hm so
    have fw : us.length + 1 < scanBound := few us nu fun y hy => List.mem_of_mem_take ((mu y).mp hy)
    show wpAny _ A.in1 (holding [Value.str x t] (setAdd S (.str x t)) >>= _) _ _ s'
    refine wpAny_bind (wpAny_holding ?_)
    unfold setAdd
    refine wpAny_holding (wpAny_bind ((PySem.strKind P w).pyHash (k := x) (strKind_is _ _ _ _) ?_))
    refine wpAny_setAddHashed_of (knd := PySem.strKind P w) (s := { s' with toks := s'.toks + 1 }) (strKind_is _ _ _ _) rfl so' fw fun h' sb so2 => ?_
    obtain ⟨us', nu', mu', so3⟩ : ∃ us' : List Str, us'.Nodup ∧ (∀ y, y ∈ us' ↔ y ∈ xs.take (i + 1)) ∧ h'.SetOf (PySem.strKind P w) S (fun y => decide (y ∈ us')) us'.length := by
      have tk : ∀ y, y ∈ xs.take (i + 1) ↔ y ∈ us ∨ y = x := fun y => by
        rw [List.take_add_one, hx, List.mem_append, ← mu y]
        simp
      by_cases c : x ∈ us
      · refine ⟨us, nu, fun y => ?_, SetOf_congr so2 (fun y => ?_) (by rw [decide_eq_true c]; rfl)⟩
        · rw [tk y]
          exact ⟨.inl, fun z => z.elim id fun z => z ▸ c⟩
        · by_cases c2 : y = x
          · subst c2
            simp [c]
          · simp [c2]
      · refine ⟨us ++ [x], ?_, fun y => ?_, SetOf_congr so2 (fun y => ?_) (by rw [decide_eq_false c, List.length_append]; rfl)⟩
        · rw [List.nodup_append]
          refine ⟨nu, List.nodup_cons.mpr ⟨fun h => (nomatch h), List.nodup_nil⟩, fun a ha b hb e => c ?_⟩
          rw [← List.mem_singleton.mp hb, ← e]
          exact ha
        · rw [tk y, List.mem_append, List.mem_singleton]
        · by_cases c2 : y = x
          · subst c2
            simp
          · simp [c2]
    refine wpAny_pure ⟨plainId_quiet PyProof.Rows.F.plain_set_update_loop _, ih (i + 1) _ us' (by omega) (W.frame _ s' _ _ st' (Nat.le_succ _) fun b hb o z => ?_) nu' mu' so3 fun s2 u2 hm2 n2 m2 so4 => ?_⟩
    · have nb : b ≠ S := fun q => nf (q ▸ hb)
      exact (sb.2 b nb).trans z
    · refine fin s2 u2 (Moved.trans W.gtrans ((hm.mono more).then_heap (Nat.le_succ _) fun b o hb z => ?_) hm2) n2 m2 so4
      have nb : b ≠ S := fun q => hb (q ▸ List.mem_cons_self)
      exact (sb.2 b nb).trans z
end
theorem nd_lenS : ∀ (l : List Str) (m : List Str), l.Nodup → (∀ x ∈ l, x ∈ m) → l.length ≤ m.length
  | [], _, _, _ => Nat.zero_le _
  | x :: l, m, h, s => by
    obtain ⟨n1, n2⟩ := List.nodup_cons.mp h
    obtain ⟨a, b, e⟩ := List.append_of_mem (s x (List.mem_cons_self ..))
    have ih := nd_lenS l (a ++ b) n2 fun y hy => by
      have ne : y ≠ x := fun z => n1 (z ▸ hy)
      have := s y (List.mem_cons_of_mem _ hy)
      rw [e] at this
      rcases List.mem_append.mp this with z | z
      · exact List.mem_append_left _ z
      · rcases List.mem_cons.mp z with z | z
        · exact absurd z ne
        · exact List.mem_append_right _ z
    rw [List.length_append] at ih
    rw [e, List.length_append, List.length_cons, List.length_cons]
    omega
section
variable {X : Cx}
end
/-! ### a row of which nobody is served yet -/
/-! ### papers that show nothing -/
/-- a text or a pair: no reason -/
def NoClause (H : Hp) (v : V) : Prop := (∃ x : Str, v = .str x) ∨ ∃ (t : Addr) (x y : Str), v = .ref t ∧ H t = some (.tup [.str x, .str y])
theorem NoClause.same {H H' : Hp} {v : V} (s : Same H H') (h : NoClause H v) : NoClause H' v := h.elim .inl fun ⟨t, x, y, e, h⟩ => .inr ⟨t, x, y, e, s _ _ h⟩
end Lk
set_option maxRecDepth 100000
set_option maxHeartbeats 4000000
namespace Lk
open PySem PySem.Spec PyProof.Rows L2
/-! ### led back, and what was done on the way -/
section
variable {ps : List (Str × Str)} {olds gn st ins1 ins2 : List Str} {name : Str} {many : Nat} {ds1 ds2 : List Deed}
theorem Way.coming {stay : Nat → List Str} {sv : List Str} {m0 m : Nat} {row fin : List Str} {ds : List Deed} (h : Way ps stay sv m0 m row ds fin) {x : Str} : some x ∈ ds → x ∈ sv.take m ++ row := by
  induction h with
  | done row => exact fun h => nomatch h
  | @go m row ds fin y hy hs t ih =>
    intro hm
    rcases List.mem_cons.mp hm with z | z
    · cases z
      exact List.mem_append_right _ hy.mem
    · rcases List.mem_append.mp (ih z) with w | w
      · exact List.mem_append_left _ w
      · exact List.mem_append_right _ (mem_rem.mp w).1
  | @back m row ds fin y h t ih =>
    intro hm
    rw [line_back h]
    rcases List.mem_cons.mp hm with z | z
    · cases z
    · exact ih z
end
/-- histories in a list -/
abbrev LH := Addr × List LD
def HistsAt (ps : List (Str × Str)) (olds gn st : List Str) (H : Hp) (ws : List LH) : Prop := ∀ q ∈ ws, H q.1 = some (.lst (refsD q.2)) ∧ DeedsAt H q.2 ∧ goD ps (q.2.map (·.2)) (olds, []) olds = some (st, gn)
theorem HistsAt.oth {ps : List (Str × Str)} {olds gn st : List Str} {H H' : Hp} {b : Addr} {ws : List LH} (o : Oth b H H') (hb : IsBox H b) (h : HistsAt ps olds gn st H ws) : HistsAt ps olds gn st H' ws := fun q hq => by
  obtain ⟨h1, h2, h3⟩ := h q hq
  exact ⟨o _ _ (hb.ne_refs (xs := q.2.map (·.1)) (by rw [List.map_map]; exact h1)) h1, fun d hd => (h2 d hd).oth o hb, h3⟩
theorem HistsAt.same {ps : List (Str × Str)} {olds gn st : List Str} {H H' : Hp} {ws : List LH} (s : Same H H') (h : HistsAt ps olds gn st H ws) : HistsAt ps olds gn st H' ws := fun q hq => by
  obtain ⟨h1, h2, h3⟩ := h q hq
  exact ⟨s _ _ h1, fun d hd => (h2 d hd).same s, h3⟩
end Lk
set_option maxRecDepth 100000
set_option maxHeartbeats 4000000
namespace Lk
open PySem PySem.Spec PyProof.Rows L2
/-! ### right papers show that nobody comes there -/
def spClT : Sp := fun vs H Q _ => ∃ (q : LR), vs = [.ref q.1] ∧ ReasonAt H q ∧ NameOk q.2.2.1 ∧ (∀ y ∈ q.2.2.2.2, NameOk y) ∧ q.2.2.2.2.Nodup ∧ q.2.2.2.2.length ≤ 100 ∧ ∀ H', Same H H' → Q (.bl true) H'
def spBwho : Sp := fun vs H Q _ => ∃ (d t p : Addr) (ps : List (Str × Str)) (line : List Str) (x wd : Str) (os : List Str) (many : Nat), vs = [.ref d, .ref t, .int (many : Nat), .str x, .str wd, .ref p] ∧ KnAt H d ps ∧ TupAt H t (line.map V.str) ∧ line.Nodup ∧ line.length ≤ 60 ∧ H p = some (.lst ((os.map fun y => line.idxOf y).map fun n : Nat => V.int n)) ∧ x ∈ line ∧ ReasonOk ps line many x wd os ∧
  ∀ H', Same H H' → Q (.bl true) H'
def spNevT : Sp := fun vs H Q _ => ∃ (a sv r p e : Addr) (ps : List (Str × Str)) (olds gn st : List Str) (rs : List LR), vs = [.ref a, .ref sv, .ref r, .ref p, .ref e] ∧ FrAt H a ps ∧ ps.length ≤ 1000 ∧ RowAt H sv gn ∧ RowAt H r st ∧ TupAt H e (olds.map V.str) ∧ (∀ x ∈ gn ++ st, NameOk x) ∧ (gn ++ st).Nodup ∧ gn.length + st.length ≤ 60 ∧ H p = some (.lst (refsR rs)) ∧ ReasonsAt H rs ∧ PaperOk ps olds gn st rs ∧
  ∀ H', Same H H' → Q (.bl true) H'
theorem ReasonOk.nd {ps : List (Str × Str)} {line : List Str} {many : Nat} {x w : Str} {os : List Str} (h : ReasonOk ps line many x w os) : os.Nodup ∧ os.length ≤ 2 := by
  rcases h with ⟨f, _, rfl, _⟩ | ⟨z, _, rfl, _⟩ | ⟨h, y, _, _, _, _, ly, ⟨_, z, rfl, _, lz⟩ | ⟨_, rfl⟩⟩
  · simp
  · simp
  · refine ⟨List.nodup_cons.mpr ⟨fun z => ?_, List.nodup_cons.mpr ⟨(fun z => nomatch z), List.nodup_nil⟩⟩, Nat.le_refl _⟩
    rw [List.mem_singleton.mp z] at ly
    omega
  · simp
end Lk
set_option maxRecDepth 100000
set_option maxHeartbeats 4000000
namespace Lk
open PySem PySem.Spec PyProof.Rows L2
/-! ### calls that may raise, in a try -/
section
variable {X : Cx} {CX : CXT} {k n m : Nat} {f : Addr} {fd : FuncData} {ps ks : List Str} {sp : Sp} {E : L2.St → XK} {x : Str} {p pos : Pos} {kws : List Keyword} {tk t : TA} {g : List Value → List Value → List Value} {gV : List V → List V → List V} {e : Expr} {es : List Expr}
theorem fn_ranX {pins : List (Addr × Obj)} {σ : L2.St} {H : Hp} {s : Shared} {Q : VK} {ar : Args} {us : List Value} {vs : List V} (F : FnOk X.prog X.w X.K X.mg X.base CX k f fd ps sp) (z : Room k X.A) (hx : PassesAt CX X σ (E σ))
    (I : Inv X pins σ H s) (bd : BindsTo s fd ar (ps.zip us)) (rv : Vals vs us) (h : sp vs H Q (E σ)) : wpAny (model X.prog X.w) X.A (call (.ref f) ar.pos ar.kw) (EP X pins σ Q) X.xe s := by
  refine wpAny_call (codeAny_mono (F.run X.A X.stack s H ar us vs Q (E σ) z I.env0 bd rv h) ?_)
  rintro (e | fl) s2 ends
  · exact hx pins H s e s2 I ends
  cases fl with
  | ret u => exact I.after ends
  | next => exact (ends : False).elim
  | brk => exact (ends : False).elim
  | cont => exact (ends : False).elim
def tCallNX (n k : Nat) (sp : Sp) (gV : List V → List V → List V) (E : L2.St → XK) (t tk : TA) : TE := fun σ H Q => t σ H fun vs H1 => tk σ H1 fun zs H2 => vs.length = n ∧ zs.length = k ∧ sp (gV vs zs) H2 Q (E σ)
theorem pe_callNX (F : FnOk X.prog X.w X.K X.mg X.base CX k f fd ps sp) (z : Room k X.A) (gl : Gl X x) (hm : X.mg x = some (.ref f)) (kp : PySem.W.keepIn X.K (.ref f) = true) (hb : KBn X.K fd ps n ks g gV) (hx : ∀ σ, PassesAt CX X σ (E σ))
    (ha : PA X (e :: es) t) (hkw : PK X kws tk) (hall : (backToKw pos (keywordEach kws X.env)).all (·.1.isSome) = true := by rfl)
    (hks : (backToKw pos (keywordEach kws X.env)).filterMap (·.1) = ks := by rfl) (hdb : (x == ("__debug__" : Str)) = false := by decide)
    (he : starEach (e :: es) X.env = (false, eval e X.env) :: starEach es X.env := by rfl)
    (hpl : ((backTo pos (starEach (e :: es) X.env)).any (·.1) || (backToKw pos (keywordEach kws X.env)).any (·.1.isNone)) = false := by rfl) :
    PE X (.Call (.Name x p) (e :: es) kws pos) (tCallNX n ks.length sp gV E t tk) := by
  refine ⟨fun pins s σ H Q I h => ?_⟩
  refine wpAny_Call_Name_kw (ld_glob I gl hm (PySem.W.callWith_KW (h₀ := X.base) I.ok.mod.kin kp hall (thn (ha.run pos pins s σ H _ I h) ?_) hpl he) hdb)
  rintro us s1 ⟨vs, H1, I1, rv, q⟩
  refine thn (hkw.run pos pins s1 σ H1 _ I1 q) fun ws s2 ⟨zs, H2, I2, rz, l1, l2, q2⟩ => ⟨I2.kIn, ?_⟩
  rw [hks]
  exact fn_ranX (ar := ⟨us, ks.zip ws⟩) F z (hx σ) I2 (hb.to s2 us ws I2.kIn (rv.length.symm.trans l1) (rz.length.symm.trans l2)) (hb.rel rv rz) q2
end
/-- as CalK, of a def that may raise -/
structure CalKX (P : Program) (w : World) (K : PySem.W.Frag) (mg : Str → Option Value) (base : Heap) (k : Nat) (x : Str) (ps : List Str) (n : Nat) (kw : Str) (sp : Sp) : Prop where
  ex : ∃ f fd, FnOk P w K mg base (L2.CX P w) k f fd ps sp ∧ mg x = some (.ref f) ∧ PySem.W.keepIn K (.ref f) = true ∧ KBn K fd ps n [kw] (fun us ws => us ++ ws) (fun vs zs => vs ++ zs)
section
variable {X : Cx} {k m n : Nat} {x kw : Str} {ps : List Str} {sp : Sp} {p pos : Pos} {e : Expr} {es : List Expr} {t tk : TA} {kws : List Keyword} {W : WX}
theorem pe_calkX (C : CalKX X.prog X.w X.K X.mg X.base k x ps n kw sp) (hr : Room m X.A) (tw : Takes X W) (ha : PA X (e :: es) t) (hkw : PK X kws tk) (hle : k ≤ m := by first | decide | omega) (hg : Gl X x := by rfl)
    (hall : (backToKw pos (keywordEach kws X.env)).all (·.1.isSome) = true := by rfl) (hks : (backToKw pos (keywordEach kws X.env)).filterMap (·.1) = [kw] := by rfl)
    (hdb : (x == ("__debug__" : Str)) = false := by decide) (he : starEach (e :: es) X.env = (false, eval e X.env) :: starEach es X.env := by rfl)
    (hpl : ((backTo pos (starEach (e :: es) X.env)).any (·.1) || (backToKw pos (keywordEach kws X.env)).any (·.1.isNone)) = false := by rfl) :
    PE X (.Call (.Name x p) (e :: es) kws pos) (tCallNX n 1 sp (fun vs zs => vs ++ zs) (L2.WE W) t tk) := by
  obtain ⟨f, fd, F, hm, hk, b1⟩ := C.ex
  exact pe_callNX F (hr.mono hle) hg hm hk b1 (fun σ => passAt tw σ) ha hkw (hall := hall) (hks := hks) (hdb := hdb) (he := he) (hpl := hpl)
end
theorem calkX_mk {P : Program} {w : World} {K : PySem.W.Frag} {mg : Str → Option Value} {base : Heap} {k : Nat} {x kw : Str} {ps : List Str} {m : Nat} {st : Stmt} {sp : Sp} {f D : Addr} {oc : Value} {od an : Option Addr} {osl : Array (Option Value)} {doc pm cdv ct : Value}
    (l : K.lookup f = some ⟨oc, od, .func (PySem.W.fnOf x x (defArgs st) (defBody st) (defScope st) .none (.ref D) doc pm an cdv ct), osl⟩) (c : PySem.W.codeIn K cdv x = true) (kp : PySem.W.keepIn K (.ref f) = true)
    (hm : mg x = some (.ref f)) (ok : FnOk P w K mg base (L2.CX P w) k f (PySem.W.fnOf x x (defArgs st) (defBody st) (defScope st) .none (.ref D) doc pm an cdv ct) ps sp)
    (hb1 : ∀ (kV doc pm : Value) (an : Option Addr) (cdv ct : Value) (us ws : List Value), us.length = m → ws.length = 1 → bindArgs (PySem.W.fnOf x x (defArgs st) (defBody st) (defScope st) .none kV doc pm an cdv ct) ⟨us, [kw].zip ws⟩ = pure (ps.zip (us ++ ws))) :
    CalKX P w K mg base k x ps m kw sp :=
  ⟨f, _, ok, hm, kp, ⟨fun s us ws _ h1 h2 => .of_eq (hb1 _ _ _ _ _ _ us ws h1 h2), fun r1 r2 => r1.append r2⟩⟩
def rTupRow : List V → Hp → VK → Prop := fun xs H Q => ∃ a row, xs = [.ref a] ∧ RowAt H a row ∧ ∀ p H', Same H H' → TupAt H' p (row.map V.str) → Q (.ref p) H'
/-! ### the class of a bad deed -/
def clsFn (s : Stmt) (i : Nat) : Stmt := match s with
  | .ClassDef (body := b) .. => b.getD i (.Pass ⟨0, 0, 0, 0⟩)
  | _ => .Pass ⟨0, 0, 0, 0⟩
/-- what the written part says of it -/
structure BadC (K : PySem.W.Frag) (mg : Str → Option Value) (C fI : Addr) : Prop where
  gC : mg "BadDeed" = some (.ref C)
  T : OexC K C
  iC : PySem.W.findIn K (.ref C) "__init__" = some (some (.ref fI))
  tI : PySem.W.typeIn K (.ref fI) = some (.type "function")
  noN : PySem.W.findIn K (.ref C) "number" = some none
  te : PySem.W.exmOne K (.ref C) (.ref C) = some true
  vV : PySem.W.findCls K (.type "ValueError") (.type "type") "__init__" = some (.val (.builtin "ValueError.__init__"))
  nVE : mg "ValueError" = none
/-- `except X` names an error of the class X itself -/
theorem names_self {K : PySem.W.Frag} {S : Addr} (sb : PySem.W.subIn K (.ref S) (.type "BaseException") = some true) (cl : PySem.W.isClsIn K S = true) (ty : PySem.W.typeIn K (.ref S) = some (.type "type")) (ss : PySem.W.subIn K (.ref S) (.ref S) = some true) :
    PySem.W.exmOne K (.ref S) (.ref S) = some true := by
  have cl' : (PySem.W.clsIn K S).isSome = true := cl
  have kc : PySem.W.kitCls K (.ref S) (.ref S) = some true := by
    unfold PySem.W.kitCls
    simp [cl', ty, ss]
  unfold PySem.W.exmOne
  simp [sb, kc]
/-- it is made with the number 0 -/
def spBadI (K : PySem.W.Frag) (C : Addr) : Sp := fun vs H Q _ => ∃ a : Addr, vs = [.ref a, .int 0] ∧ H a = some (exo a C none) ∧
  ∀ dx, H dx = none → dx ≠ a → Q .non (upd (upd H dx (exd dx [("number", .int 0)])) a (exo a C (some dx)))
def spRdsX : Sp := fun vs H Q _ => ∃ q : LR, vs = [.ref q.1] ∧ ReasonAt H q ∧ ∀ H', Same H H' → Q (.bl false) H'
/-- the first deed is none -/
def spDoneX (C : Addr) : Sp := fun vs H Q E => ∃ (a p e : Addr) (olds : List Str) (q : LR) (rs : List LR), vs = [.ref a, .ref p, .ref e] ∧ H p = some (.lst (refsR (q :: rs))) ∧ ReasonAt H q ∧ RowAt H e olds ∧ olds.length ≤ 100 ∧
  ∀ d H', Same H H' → H d = none → E (.ref C) (some d) H'
def spShHX : Sp := fun vs H Q _ => ∃ (a p e : Addr) (sv r : V) (olds : List Str) (rs : List LR), vs = [.ref a, sv, r, .ref p, .ref e] ∧ H p = some (.lst (refsR rs)) ∧ ReasonsAt H rs ∧ rs ≠ [] ∧ rs.length ≤ 100 ∧ RowAt H e olds ∧ olds.length ≤ 100 ∧
  ∀ H', Same H H' → Q (.bl false) H'
theorem FnOk.or {P : Program} {w : World} {K : PySem.W.Frag} {mg : Str → Option Value} {base : Heap} {CX : CXT} {k : Nat} {f : Addr} {fd : FuncData} {ps : List Str} {s1 s2 : Sp} (F1 : FnOk P w K mg base CX k f fd ps s1) (F2 : FnOk P w K mg base CX k f fd ps s2) : FnOk P w K mg base CX k f fd ps (fun vs H Q E => s1 vs H Q E ∨ s2 vs H Q E) :=
  ⟨fun vs H Q E h => h.elim (F1.len vs H Q E) (F2.len vs H Q E), fun A out s H ar us vs Q E z e b v m => m.elim (F1.run A out s H ar us vs Q E z e b v) (F2.run A out s H ar us vs Q E z e b v)⟩
/-- deeds are no clauses -/
def spClD : Sp := fun vs H Q _ => ∃ (t : Addr) (d : Deed), vs = [.ref t] ∧ TupAt H t ((deedL d).map V.str) ∧ ∀ H', Same H H' → Q (.bl false) H'
def spNevD : Sp := fun vs H Q _ => ∃ (a sv r e : V) (p : Addr) (ds : List LD), vs = [a, sv, r, .ref p, e] ∧ H p = some (.lst (refsD ds)) ∧ DeedsAt H ds ∧ ds.length ≤ 100 ∧ ∀ H', Same H H' → Q (.bl false) H'
def spNevB : Sp := fun vs H Q E => spNevD vs H Q E ∨ spNevT vs H Q E
def spShHB : Sp := fun vs H Q E => spShowsH vs H Q E ∨ spShHX vs H Q E
end Lk
set_option maxRecDepth 100000
set_option maxHeartbeats 4000000
/-! own exception classes right over a built-in one, with an __init__ of their own -/
namespace Lk
open PySem PySem.Spec PySem.W PySem.Calls PyProof.Rows PySem.HandSPX Builtin Builtin.ObjectAttr
abbrev mroB (T : String) : List Value := [.type T, .type "Exception", .type "BaseException", .type "object"]
/-- what the model says of the built-in class T -/
structure BaseK (T newId initId : String) : Prop where
  F : ExcBaseFacts T newId initId (mroB T)
  pass : ∀ self, refuseLoop self "__setattr__" (mroB T) = pure ()
  ty : typeOf (.type T) = pure (.type "type")
  stub : Manifest.isStub T = false
  hand : PySem.W.handedIn (.builtin initId) = true
theorem base_VE : BaseK "ValueError" "ValueError.__new__" "ValueError.__init__" := ⟨F.excBase_ValueError, F.store_ValueError.passes, by kernel_rfl, by decide +kernel, by decide +kernel⟩
section
variable {prog : Program} {w : World} {A : Around} {E : Value → Shared → Prop} {R : Result → Shared → Prop} {hp : Heap} {g : Array GenState} {d : Drawn} {t : Nat} {os : OsState} {T newId initId : String} {K : Frag} {name : Str} {tk : Tok} {v : Value} {x C : Addr} {fv : Array Value} {cd : ClassData}
theorem has_object (T : String) (C : Addr) : (Value.ref C :: mroB T).contains (.type "object") = true := by
  simp [mroB]
theorem osa_first (BK : BaseK T newId initId) (kin : K.In hp) (hx : hp.get? x = some { cls := .ref C, data := .fields fv }) (hcd : clsIn K C = some cd) (hm : cd.mro = .ref C :: mroB T) (hh : cd.hasDict = true) (ha : findIn K (.ref C) name = some none)
    (q : ∀ h' tk' dx, (∀ b o, b ≠ x → hp.get? b = some o → h'.get? b = some o) → hp.objs.size ≤ dx → dx ≠ x → h'.get? x = some { cls := .ref C, dict := some dx, data := .fields fv } →
      h'.Ns1 dx (fun y => if y = name then some v else none) → R (.ok (.ret .none)) ⟨h', g, d, tk', os⟩) :
    codeAny (model prog w) A (.call (.builtin "object.__setattr__") ⟨[.ref x, .str name tk, v], []⟩) R ⟨hp, g, d, t, os⟩ := by
  have J : InstAt hp x { cls := .ref C, data := .fields fv } C none := ⟨hx, rfl, rfl, trivial⟩
  have S := F.store_object
  have xs : x ≠ hp.objs.size := Nat.ne_of_lt (Heap.lt_size hx)
  have sub : Looks (model prog w) hp (isInstance (.ref x) (.type "object")) true := J.type.andThen (looks_mroIn kin (by unfold mroIn; rw [hcd, Option.bind_some, hm, if_neg (by simp), has_object]))
  refine codeAny_call_builtin S.slot.plain S.entry (@check_slot (model prog w) _ _ ⟨hp, g, d, t, os⟩ "object.__setattr__" "object" "__setattr__" (.ref x) [.str name tk, v] [] _ S.kind S.split sub (S.args (.ref x) (.str name tk) v) ?_)
  have Lm : Looks (model prog w) hp (mroOf (.ref C)) cd.mro := (looks_clsIn kin hcd).andThen .now
  have Lt : Looks (model prog w) hp (storeTaker? none) none := .now
  have Lc : Looks (model prog w) hp (classData C) cd := looks_clsIn kin hcd
  rw [osa_eq, refuse_eq]
  refine wpAny_bind (wpAny_bind (J.type.at (wpAny_bind (Lm.at ?_))))
  rw [hm, refuseLoop_ref, BK.pass]
  refine wpAny_pure (wpAny_bind (J.type.at (wpAny_bind ((looks_findIn kin ha).at (wpAny_bind (Lt.at ?_))))))
  show wpAny _ _ (storeInOwnDict (.ref x) (.ref C) (.str name tk) name v false) _ _ _
  obtain ⟨nm, bs, mro, ns, qn, hd, sn, sb, ab, col, del⟩ := cd
  dsimp only at hh
  subst hh
  unfold storeInOwnDict ownDictForStores
  repeat (first | with_reducible refine store_in_new ?_ ?_ | with_reducible refine wpAny_loadPart_at hx ?_ | with_reducible refine Lc.at ?_ | wp_step)
  · exact ⟨_, #[], _, (Heap.get?_update_ne _ _ _ _ xs.symm).trans (Heap.get?_push_at rfl rfl), rfl, fun e he => absurd he (by simp), fun _ => rfl⟩
  · intro h' tk' hn' hs
    have hx1 : (hp.push { cls := .type "dict", data := .dict #[] }).get? x = some { cls := .ref C, data := .fields fv } := Heap.get?_push_of_some _ hx
    refine q h' tk' hp.objs.size (fun b o hb ho => ?_) (Nat.le_refl _) xs.symm ?_ hn'
    · exact (hs.2 b (Nat.ne_of_lt (Heap.lt_size ho))).trans ((Heap.get?_update_ne _ _ _ _ hb).trans (Heap.get?_push_of_some _ ho))
    · exact (hs.2 x xs).trans (Heap.get?_update_self _ hx1 rfl)
theorem osa_next {dx : Addr} {m0 : Str → Option Value} {nl : List Str} (BK : BaseK T newId initId) (kin : K.In hp) (hx : hp.get? x = some { cls := .ref C, dict := some dx, data := .fields fv }) (hns : hp.Ns1 dx m0) (hw : Within m0 nl) (hz : nl.length ≤ 1000)
    (hcd : clsIn K C = some cd) (hm : cd.mro = .ref C :: mroB T) (hh : cd.hasDict = true) (ha : findIn K (.ref C) name = some none)
    (q : ∀ h' tk', (∀ b o, b ≠ dx → hp.get? b = some o → h'.get? b = some o) → h'.Ns1 dx (fun y => if y = name then some v else m0 y) → R (.ok (.ret .none)) ⟨h', g, d, tk', os⟩) :
    codeAny (model prog w) A (.call (.builtin "object.__setattr__") ⟨[.ref x, .str name tk, v], []⟩) R ⟨hp, g, d, t, os⟩ := by
  obtain ⟨oD, esD, epD, hoD, hdD, _⟩ := hns.count hw
  have J : InstAt hp x { cls := .ref C, dict := some dx, data := .fields fv } C (some oD) := ⟨hx, rfl, rfl, hoD⟩
  have S := F.store_object
  have sub : Looks (model prog w) hp (isInstance (.ref x) (.type "object")) true := J.type.andThen (looks_mroIn kin (by unfold mroIn; rw [hcd, Option.bind_some, hm, if_neg (by simp), has_object]))
  refine codeAny_call_builtin S.slot.plain S.entry (@check_slot (model prog w) _ _ ⟨hp, g, d, t, os⟩ "object.__setattr__" "object" "__setattr__" (.ref x) [.str name tk, v] [] _ S.kind S.split sub (S.args (.ref x) (.str name tk) v) ?_)
  have Lm : Looks (model prog w) hp (mroOf (.ref C)) cd.mro := (looks_clsIn kin hcd).andThen .now
  have Lt : Looks (model prog w) hp (storeTaker? none) none := .now
  have Lc : Looks (model prog w) hp (classData C) cd := looks_clsIn kin hcd
  rw [osa_eq, refuse_eq]
  refine wpAny_bind (wpAny_bind (J.type.at (wpAny_bind (Lm.at ?_))))
  rw [hm, refuseLoop_ref, BK.pass]
  refine wpAny_pure (wpAny_bind (J.type.at (wpAny_bind ((looks_findIn kin ha).at (wpAny_bind (Lt.at ?_))))))
  show wpAny _ _ (storeInOwnDict (.ref x) (.ref C) (.str name tk) name v false) _ _ _
  obtain ⟨nm, bs, mro, ns, qn, hd, sn, sb, ab, col, del⟩ := cd
  dsimp only at hh
  subst hh
  unfold storeInOwnDict ownDictForStores
  repeat (first | with_reducible refine PySem.OEX.store_in_old hns hw hz ?_ | with_reducible refine wpAny_loadPart_at hx ?_ | with_reducible refine Lc.at ?_ | wp_step)
  intro h' tk' hn' hs
  exact q h' tk' (fun b o hb ho => (hs.2 b hb).trans ho) hn'
end
end Lk

namespace Lk
open PySem PySem.Spec PyProof.Rows L2
/-- what the written part says of such a class -/
structure OwnC (K : PySem.W.Frag) (T newId : String) (C : Addr) : Prop where
  cls : ∃ nm q N bs sn sub ab col dd k0 k1 k2 k3 k5, K.lookup C = some (excClassObj nm q C N bs (mroB T) true sn sub ab col dd k0 k1 k2 k3 k5 newId)
  sa : PySem.W.findIn K (.ref C) "__setattr__" = some (some (.builtin "object.__setattr__"))
  exC : PySem.W.subIn K (.ref C) (.type "BaseException") = some true
  tyC : PySem.W.typeIn K (.ref C) = some (.type "type")
  kC : PySem.W.keepIn K (.ref C) = true
section
variable {X : Cx} {pins : List (Addr × Obj)} {σ : L2.St} {H : Hp} {s : Shared} {a C dx : Addr} {f : Str} {y : V} {u : Value} {fs : List (Str × V)} {Q : Unit → Shared → Prop} {E : Value → Shared → Prop} {A : Around} {T newId initId : String}
/-- self.f = y, the first field -/
theorem put_first (BK : BaseK T newId initId) (O : OwnC X.K T newId C) (I : Inv X pins σ H s) (e : H a = some (exo a C none)) (hno : PySem.W.findIn X.K (.ref C) f = some none) (ry : RelV y u)
    (q : ∀ dx s', H dx = none → dx ≠ a → Inv X pins σ (upd (upd H dx (exd dx [(f, y)])) a (exo a C (some dx))) s' → Q () s') : wpAny (model X.prog X.w) A (setAttr (.ref a) f u) Q E s := by
  obtain ⟨nm, qn, N, bs, sn, sub, ab, col, dd, k0, k1, k2, k3, k5, hC⟩ := O.cls
  have hcl : PySem.W.clsIn X.K C = some { name := nm, bases := bs, mro := .ref C :: mroB T, ns := N, qualname := qn, hasDict := true, slotNames := sn, subclasses := sub, abstract := ab, collection := col, hasDel := false } := by unfold PySem.W.clsIn; rw [hC] <;> rfl
  obtain ⟨t1, ho⟩ := exo_at I.hok e
  obtain ⟨hp, g, d, t, os⟩ := s
  refine PySem.W.set_plain I.kIn (ox := { cls := .ref C, dict := none, data := .fields #[.ref t1, .none, .none, .none, .bool false, .none] }) (od := none) ⟨ho, rfl, rfl, trivial⟩ O.sa ?_
  refine osa_first BK I.kIn ho hcl rfl rfl hno (fun h' tk' dx k dn dne hx hn => ?_)
  have hnd : H dx = none := I.hok.fresh dn
  have ned : ∀ {b : Addr} {o : Obj}, hp.get? b = some o → b ≠ dx := fun {b o} z => Nat.ne_of_lt (Nat.lt_of_lt_of_le (Heap.lt_size z) dn)
  have nea : ∀ {b : Addr}, H b = none → b ≠ a := fun {b} n z => by
    subst z
    rw [e] at n
    cases n
  have off : ∀ {b : Addr} {o : HO}, H b = some o → b ≠ a → upd (upd H dx (exd dx [(f, y)])) a (exo a C (some dx)) b = some o := fun {b o} z n => by
    rw [upd_ne n, upd_ne (ne_of_none z hnd)]
    exact z
  refine q dx _ hnd dne (I.un (t' := tk') (H' := upd (upd H dx (exd dx [(f, y)])) a (exo a C (some dx))) (h' := h') ⟨fun b o z n _ _ => k b o (nea n) z, fun b o z n _ _ => ⟨o.slots, k b o (nea n) z⟩, fun b o z n _ => ?_, fun b o z _ => ?_,
    fun b xs z => off z (at_ne e z exo_tup), fun b o v z => off z (at_ne e z exo_frz), fun b ps z => ⟨#[], by rw [off z (at_ne e z exo_tbl)]; simp⟩⟩ fun b o z => ?_)
  · rw [upd_ne (nea n), upd_ne (ned z)]
    exact n
  · by_cases hb : b = a
    · exact ⟨_, by rw [hb]; exact hx⟩
    · exact ⟨o, k b o hb z⟩
  by_cases hb : b = a
  · subst hb
    rw [upd_same] at z
    cases z
    exact exo_ok hx
  · rw [upd_ne hb] at z
    by_cases hd : b = dx
    · subst hd
      rw [upd_same] at z
      cases z
      exact exd_ok hn (relO_put (fs := []) ry fun _ => True.intro)
    · rw [upd_ne hd] at z
      refine (I.hok b o z).stay (fun c v hc w => k c v ?_ w) (fun c hc => off hc (at_ne e hc exo_own)) (fun c xs hc => off hc (at_ne e hc exo_tup))
      rcases hc with hc | hc
      · rw [hc]
        exact hb
      · exact at_ne e hc exo_own
/-- self.f = y, a further field -/
theorem put_next (BK : BaseK T newId initId) (O : OwnC X.K T newId C) (I : Inv X pins σ H s) (e : H a = some (exo a C (some dx))) (ed : H dx = some (exd dx fs)) (hl : fs.length ≤ 900) (hno : PySem.W.findIn X.K (.ref C) f = some none) (ry : RelV y u)
    (q : ∀ s', Inv X pins σ (upd H dx (exd dx ((f, y) :: fs))) s' → Q () s') : wpAny (model X.prog X.w) A (setAttr (.ref a) f u) Q E s := by
  obtain ⟨nm, qn, N, bs, sn, sub, ab, col, dd, k0, k1, k2, k3, k5, hC⟩ := O.cls
  have hcl : PySem.W.clsIn X.K C = some { name := nm, bases := bs, mro := .ref C :: mroB T, ns := N, qualname := qn, hasDict := true, slotNames := sn, subclasses := sub, abstract := ab, collection := col, hasDel := false } := by unfold PySem.W.clsIn; rw [hC] <;> rfl
  obtain ⟨t1, ho⟩ := exo_at I.hok e
  obtain ⟨mA, hns, rel⟩ := exd_at I.hok ed
  have hw := within_of rel
  obtain ⟨hp, g, d, t, os⟩ := s
  obtain ⟨oD, _, _, hoD, _, _⟩ := hns.count hw
  refine PySem.W.set_plain I.kIn (ox := { cls := .ref C, dict := some dx, data := .fields #[.ref t1, .none, .none, .none, .bool false, .none] }) (od := some oD) ⟨ho, rfl, rfl, hoD⟩ O.sa ?_
  refine osa_next BK I.kIn ho hns hw (by rw [List.length_map]; omega) hcl rfl rfl hno (fun h' tk' k hn => ?_)
  have there : ∃ o, h'.get? dx = some o := by
    obtain ⟨o, _, _, e', _⟩ := hn
    exact ⟨o, e'⟩
  exact q _ (I.write (t' := tk') (x := dx) (e := dx) (o := exd dx ((f, y) :: fs)) (by rw [ed]; exact True.intro) (.inl rfl) k there (exd_ok hn (relO_put ry rel)))
/-- T.__init__(self, ..) -/
theorem base_init {us : List Value} {Q : Value → Shared → Prop} (BK : BaseK T newId initId) (O : OwnC X.K T newId C) (I : Inv X pins σ H s) (e : H a = some (exo a C none)) (hl : us.length ≤ sizeLine) (q : ∀ s', Inv X pins σ H s' → Q .none s') :
    wpAny (model X.prog X.w) A (call (.builtin initId) (.ref a :: us)) Q E s := by
  obtain ⟨nm, qn, N, bs, sn, sub, ab, col, dd, k0, k1, k2, k3, k5, hC⟩ := O.cls
  obtain ⟨t1, ho⟩ := exo_at I.hok e
  obtain ⟨hp, g, d, t, os⟩ := s
  refine wpAny_call (PySem.HandSPX.init_base BK.F (fun _ => rfl) (I.kIn _ _ hC) ho hl fun h' t2 k hx => ?_)
  have J := I.write (t' := t) (x := a) (e := a) (o := exo a C none) (by rw [e]; exact True.intro) (.inl rfl) k ⟨_, hx⟩ (exo_ok hx)
  rw [show upd H a (exo a C none) = H from funext fun b => by
    by_cases hb : b = a
    · rw [hb, upd_same, e]
    · rw [upd_ne hb]] at J
  exact q _ J
/-- an object that is new since the entry is forgotten, and the heap read without it -/
theorem inv_forget {φ : Heap → Prop} (I : Inv X pins σ H s) (ha : H a = some (.ext φ)) (n0 : X.s_0.heap.get? a = none) :
    ∃ G : Heap, (∀ b o, G.get? b = some o → s.heap.get? b = some o) ∧ G.get? a = none ∧ Inv X pins σ (del H a) { s with heap := G } := by
  obtain ⟨G, g1, g2⟩ := restrict s.heap fun b => decide (b ≠ a)
  have stays : ∀ b o, b ≠ a → s.heap.get? b = some o → G.get? b = some o := fun b o hb e => (g1 b (decide_eq_true hb)).trans e
  have noA : G.get? a = none := g2 a (decide_eq_false fun z => z rfl)
  have sub : ∀ b o, G.get? b = some o → s.heap.get? b = some o := fun b o e => by
    by_cases hb : b = a
    · rw [hb, noA] at e
      cases e
    · exact (g1 b (decide_eq_true hb)).symm.trans e
  have ne0 : ∀ b o, X.s_0.heap.get? b = some o → b ≠ a := fun b o e z => by
    subst z
    rw [n0] at e
    cases e
  have neN : ∀ b, H b = none → b ≠ a := fun b e z => by
    subst z
    rw [ha] at e
    cases e
  have neO : ∀ b o, H b = some o → (∀ ψ, o ≠ .ext ψ) → b ≠ a := fun b o e n z => by
    subst z
    rw [ha] at e
    exact n φ (Option.some.inj e).symm
  have cells : ∀ x c, X.env.cells.lookup x = some c → ∀ v, s.heap.IsCell c v → G.IsCell c v := fun x c e v ⟨o, ho, hd⟩ => ⟨o, stays c o (neN c (I.freeC x c e)) ho, hd⟩
  refine ⟨G, sub, noA, ⟨I.ok, I.os, I.bare, ⟨fun b o e n hb hq => stays b o (ne0 b o e) (I.base.keep b o e n hb hq), fun b o e n hb hq => ?_, fun b o e n hq => ?_, fun b o e hq => ?_, fun b xs e => ?_, fun b o u e => ?_, fun b ps e => ?_⟩, ?_, fun x c e => ?_, ?_, fun x c e => ?_, fun p hp => ?_, fun b u e => ?_, I.len⟩⟩
  · obtain ⟨sl, q⟩ := I.base.slot b o e n hb hq
    exact ⟨sl, stays b _ (ne0 b o e) q⟩
  · rw [del_ne (ne0 b o e)]
    exact I.base.free b o e n hq
  · obtain ⟨o', q⟩ := I.base.there b o e hq
    exact ⟨o', stays b o' (ne0 b o e) q⟩
  · have q := I.base.tups b xs e
    rw [del_ne (neO b _ q fun _ z => nomatch z)]
    exact q
  · have q := I.base.frzs b o u e
    rw [del_ne (neO b _ q fun _ z => nomatch z)]
    exact q
  · obtain ⟨m, q⟩ := I.base.tbls b ps e
    exact ⟨m, by rw [del_ne (neO b _ q fun _ z => nomatch z)]; exact q⟩
  · obtain ⟨m, ⟨o, es, ep, ho, r⟩, hl⟩ := I.loc
    refine ⟨m, ⟨o, es, ep, stays _ _ (neN _ I.free) ho, r⟩, fun i x v e1 e2 e3 => ?_⟩
    obtain ⟨u, ru, l⟩ := hl i x v e1 e2 e3
    exact ⟨u, ru, l.imp id fun ⟨k, c, ec, z⟩ => ⟨k, c, ec, cells x c ec _ z⟩⟩
  · obtain ⟨v, z⟩ := I.cell x c e
    exact ⟨v, cells x c e v z⟩
  · rw [del_ne (neN _ I.free)]
    exact I.free
  · rw [del_ne (neN _ (I.freeC x c e))]
    exact I.freeC x c e
  · obtain ⟨e, n, r⟩ := I.pin p hp
    exact ⟨stays _ _ (neN _ n) e, by rw [del_ne (neN _ n)]; exact n, r⟩
  · have hb : b ≠ a := fun z => by
      rw [z, del_same] at e
      cases e
    rw [del_ne hb] at e
    refine (I.hok b u e).stay (fun c v hc q => stays c v ?_ q) (fun c q => ?_) fun c xs q => ?_
    · rcases hc with z | z
      · rw [z]
        exact hb
      · exact neO _ _ z fun _ w => nomatch w
    · rw [del_ne (neO c _ q fun _ z => nomatch z)]
      exact q
    · rw [del_ne (neO c _ q fun _ z => nomatch z)]
      exact q
end
/-! ### readings -/
/-- T.__init__(self, ..) -/
def tBaseI (K : PySem.W.Frag) (T newId : String) (ta : TA) : TE := fun σ H Q => ta σ H fun vs H1 => ∃ (a C : Addr) (ws : List V), vs = .ref a :: ws ∧ ws.length ≤ 1000 ∧ OwnC K T newId C ∧ H1 a = some (exo a C none) ∧ Q .non H1
/-- self.f = e -/
def tPut (K : PySem.W.Frag) (T newId : String) (f : Str) (to te : TE) : TS := fun D σ H => te σ H fun y H1 => to σ H1 fun x H2 => ∃ a C : Addr, x = .ref a ∧ OwnC K T newId C ∧ PySem.W.findIn K (.ref C) f = some none ∧
  ((H2 a = some (exo a C none) ∧ ∀ dx, H2 dx = none → dx ≠ a → D.nx σ (upd (upd H2 dx (exd dx [(f, y)])) a (exo a C (some dx)))) ∨
    ∃ (dx : Addr) (fs : List (Str × V)), H2 a = some (exo a C (some dx)) ∧ H2 dx = some (exd dx fs) ∧ fs.length ≤ 900 ∧ D.nx σ (upd H2 dx (exd dx ((f, y) :: fs))))
/-- C(..), C's own __init__ keeping sp -/
def tMade (C : Addr) (sp : Sp) (ta : TA) : L2.St → Hp → XK → Prop := fun σ H Q => ta σ H fun vs H1 => vs.length ≤ 1000 ∧ ∀ a, H1 a = none → sp (.ref a :: vs) (upd H1 a (exo a C none))
  (fun v H2 => v = .non ∧ ((H2 a = some (exo a C none) ∧ Q (.ref C) none (del H2 a)) ∨ ∃ (d : Addr) (fs : List (Str × V)), H2 a = some (exo a C (some d)) ∧ H2 d = some (exd d fs) ∧ H1 d = none ∧ Q (.ref C) (some d) (upd (del H2 a) d (.xd fs)))) (fun _ _ _ => False)
section
variable {X : Cx} {o e : Expr} {es : List Expr} {to te : TE} {ta : TA} {f : Str} {p p' p1 p2 pos : Pos} {T newId initId : String} {tn : Str}
theorem pe_baseinit {pl : Sem Bool} (BK : BaseK T newId initId) (hg : Gl X tn) (hm : X.mg tn = none) (hB : bootBuiltins tn = some (.type T)) (vV : PySem.W.findCls X.K (.type T) (.type "type") "__init__" = some (.val (.builtin initId))) (ha : PA X (e :: es) ta)
    (hc : eval (.Call (.Attribute (.Name tn p1) "__init__" p2) (e :: es) [] pos) X.env = (do
      let o ← eval (.Name tn p1) X.env
      standAt p2.atName
      let (m, self) ← holding [o] (getMethod o "__init__" pl)
      callWith pos m self (backTo pos (starEach (e :: es) X.env)) (backToKw pos (keywordEach [] X.env))) := by rfl)
    (hn : tn ≠ "__name__" := by decide) (hd : (tn == ("__debug__" : Str)) = false := by decide)
    (he : starEach (e :: es) X.env = (false, eval e X.env) :: starEach es X.env := by rfl) (hpl : (backTo pos (starEach es X.env)).any (·.1) = false := by rfl) :
    PE X (.Call (.Attribute (.Name tn p1) "__init__" p2) (e :: es) [] pos) (tBaseI X.K T newId ta) := by
  refine ⟨fun pins s σ H Q I h => ?_⟩
  refine PySem.W.methodCall_KW (ld_blt I hg hm hB ?_ hn hd) hc
  obtain ⟨m, fr⟩ := I.fr
  refine PySem.W.method_type fr I.ok.mod.kin BK.ty BK.stub vV BK.hand ?_
  show wpAny _ _ (callWith pos (Value.builtin initId) [] (backTo pos (starEach (e :: es) X.env)) []) _ _ _
  refine PyProof.Rows.callWith_method1 (thn (ha.run pos pins _ σ H _ (I.tok _) h) fun us s1 ⟨vs, H1, I1, r1, a, C, ws, ev, hl, O, ea, q⟩ => ?_) he hpl
  subst ev
  cases r1 with
  | @cons _ u0 _ ur ra rw' =>
    obtain rfl : u0 = Value.ref a := ra
    have len : ur.length ≤ sizeLine := by
      rw [← Paired.length rw', sizeLine_eq]
      omega
    exact base_init BK O I1 ea len fun s' J => ⟨.non, H1, J, rfl, q⟩
theorem ps_put (BK : BaseK T newId initId) (ho : PE X o to) (he : PE X e te) (hs : swapsWith e (some (.Attribute o f p')) pos.line X.env = pure false := by rfl) : PS X (.Assign [.Attribute o f p'] e pos) (tPut X.K T newId f to te) := by
  refine ⟨fun pins s σ H D I h => ?_⟩
  refine plainObj_wpAny_Assign_Attribute (thn (he.run pins s σ H _ I h) fun v s1 ⟨y, H1, I1, r1, q1⟩ => thn (ho.run pins s1 σ H1 _ I1 q1) fun u s2 ⟨x, H2, I2, r2, a, C, ex, O, hno, q⟩ => ?_) hs
  subst ex
  obtain rfl : u = Value.ref a := r2
  rcases q with ⟨ea, q⟩ | ⟨dx, fs, ea, ed, hl, q⟩
  · exact put_first BK O I2 ea hno r1 fun dx s' n ne J => ⟨σ, _, J, q dx n ne⟩
  · exact put_next BK O I2 ea ed hl hno r1 fun s' J => ⟨σ, _, J, q⟩
/-- what stands behind C(..) -/
theorem made_end {pins : List (Addr × Obj)} {σ : L2.St} {H1 H2 : Hp} {Q : XK} {hp hp2 h2 : Heap} {g1 g2 : Array GenState} {d1 d2 : Drawn} {t1 t2 : Nat} {os1 os2 : OsState} {a C : Addr} (hex : X.ex = []) (R : Raises X (.ref C)) (I1 : Inv X pins σ H1 ⟨hp, g1, d1, t1, os1⟩)
    (ha : hp.objs.size ≤ a) (k : ∀ b o, hp.get? b = some o → hp2.get? b = some o) (I2 : Inv X pins σ (upd H1 a (exo a C none)) ⟨hp2, g1, d1, t1, os1⟩) (un : Un (frs X.stack) [] (upd H1 a (exo a C none)) H2 hp2 h2) (hok : HOk X.prog X.w H2 h2) (ho : os2 = os1) (hb : AllBare g2)
    (q : (H2 a = some (exo a C none) ∧ Q (.ref C) none (del H2 a)) ∨ ∃ (d : Addr) (fs : List (Str × V)), H2 a = some (exo a C (some d)) ∧ H2 d = some (exd d fs) ∧ H1 d = none ∧ Q (.ref C) (some d) (upd (del H2 a) d (.xd fs))) : MkP X pins σ Q (.ref a) ⟨h2, g2, d2, t2, os2⟩ := by
  rcases q with ⟨ea, q⟩ | ⟨d, fs, ea, ed, hd1, q⟩
  · have J : Inv X pins σ H2 ⟨h2, g2, d2, t2, os2⟩ := I2.call' (ch := []) ho un hok hb (fun b z => absurd z (by simp))
    have n0 : X.s_0.heap.get? a = none := by
      cases e : X.s_0.heap.get? a with
      | none => rfl
      | some o =>
        obtain ⟨o', z⟩ := I1.base.there a o e (by rw [hex]; exact fun z => nomatch z)
        exact absurd (show a < hp.objs.size from Heap.lt_size z) (Nat.not_lt.mpr ha)
    obtain ⟨t0, hoe⟩ := exo_at J.hok ea
    obtain ⟨G, kG, nG, J2⟩ := inv_forget J ea n0
    exact ⟨a, _, _, _, _, .ref C, none, rfl, J2, kG, nG, hoe, ⟨rfl, rfl⟩, rfl, rfl, del_same, rfl, hb, R, q⟩
  · exact mk_end R I1 ha k un hok ho hb ea ed hd1 q
section
variable {CX : CXT} {x : Str} {C fI : Addr} {k : Nat} {fd : FuncData} {ps : List Str} {sp : Sp}
theorem made_call {pins : List (Addr × Obj)} {s1 : Shared} {σ : L2.St} {H1 : Hp} {Q : XK} {us : List Value} {vs : List V} (BK : BaseK T newId initId) (O : OwnC X.K T newId C) (iC : PySem.W.findIn X.K (.ref C) "__init__" = some (some (.ref fI))) (tI : PySem.W.typeIn X.K (.ref fI) = some (.type "function"))
    (F1 : L2.FnOk X.prog X.w X.K X.mg X.base CX k fI fd ps sp) (hr : L2.Room (k + 1) X.A) (hb : Binds X.K fd ps []) (hx : Passes CX X (fun _ _ _ => False)) (hex : X.ex = []) (I1 : Inv X pins σ H1 s1) (r1 : Vals vs us) (hz : vs.length ≤ 1000)
    (q1 : ∀ a, H1 a = none → sp (.ref a :: vs) (upd H1 a (exo a C none))
      (fun v H2 => v = .non ∧ ((H2 a = some (exo a C none) ∧ Q (.ref C) none (del H2 a)) ∨ ∃ (d : Addr) (fs : List (Str × V)), H2 a = some (exo a C (some d)) ∧ H2 d = some (exd d fs) ∧ H1 d = none ∧ Q (.ref C) (some d) (upd (del H2 a) d (.xd fs)))) (fun _ _ _ => False)) :
    wpAny (model X.prog X.w) X.A (call (.ref C) us) (MkP X pins σ Q) X.xe s1 := by
  obtain ⟨nm, qn, N, bs, sn, sub, ab, col, dd, k0, k1, k2, k3, k5, hC⟩ := O.cls
  obtain ⟨hp, g, dr, tk, os⟩ := s1
  have up1 : hp.objs.size ≤ hp.objs.size + 1 := Nat.le_succ _
  have q2 := q1 (hp.objs.size + 1) (I1.hok.fresh up1)
  have kk : ∀ b o, hp.get? b = some o → ((hp.push (PySem.W.kdv_tup us)).push (PySem.HandSPX.excO C hp.objs.size)).get? b = some o := fun b o e => Heap.get?_push_of_some _ (Heap.get?_push_of_some _ e)
  have here : ((hp.push (PySem.W.kdv_tup us)).push (PySem.HandSPX.excO C hp.objs.size)).get? (hp.objs.size + 1) = some (PySem.HandSPX.excO C hp.objs.size) := by heap_get
  have I2 : Inv X pins σ (upd H1 (hp.objs.size + 1) (exo (hp.objs.size + 1) C none)) ⟨(hp.push (PySem.W.kdv_tup us)).push (PySem.HandSPX.excO C hp.objs.size), g, dr, tk, os⟩ :=
    I1.laid (t' := tk) (a := hp.objs.size + 1) (o := exo (hp.objs.size + 1) C none) (h' := (hp.push (PySem.W.kdv_tup us)).push (PySem.HandSPX.excO C hp.objs.size)) kk up1 (exo_ok here)
  have r2 : Vals (V.ref (hp.objs.size + 1) :: vs) (Value.ref (hp.objs.size + 1) :: us) := .cons rfl r1
  have len2 : (Value.ref (hp.objs.size + 1) :: us ++ []).length = ps.length := by
    rw [List.append_nil, ← F1.len _ _ _ _ q2, r2.length]
  have len1 : us.length ≤ sizeLine := by
    rw [← Paired.length r1, sizeLine_eq]
    omega
  have bd := hb ⟨(hp.push (PySem.W.kdv_tup us)).push (PySem.HandSPX.excO C hp.objs.size), g, dr, tk, os⟩ (Value.ref (hp.objs.size + 1) :: us) I2.kIn len2
  rw [List.append_nil] at bd
  refine wpAny_call (PySem.HandSPX.call_own BK.F (fun _ => rfl) (I1.kIn _ _ hC) (PySem.W.looks_findIn I1.kIn iC) (fun self => PySem.W.bind_fn I1.kIn self tI) len1
    (codeAny_mono (F1.run _ X.stack _ _ ⟨Value.ref (hp.objs.size + 1) :: us, []⟩ (Value.ref (hp.objs.size + 1) :: us) _ _ (fun _ _ _ => False) (hr.make C us []) (I2.env0.make C us []) bd r2 q2) fun r s' w => ?_))
  cases r with
  | error er => exact hx pins σ _ _ er s' I2 w
  | ok fl =>
    cases fl with
    | ret u =>
      obtain ⟨v, H2, os2, bare2, un2, hok2, rv, ev, q3⟩ := w
      subst ev
      obtain ⟨h2, g2, d2, t2, os'⟩ := s'
      exact ⟨rv, made_end hex (raises_own O.exC O.tyC) I1 up1 kk I2 un2 hok2 os2 bare2 q3⟩
    | next => exact False.elim w
    | brk => exact False.elim w
    | cont => exact False.elim w
theorem pmk_made (BK : BaseK T newId initId) (O : OwnC X.K T newId C) (iC : PySem.W.findIn X.K (.ref C) "__init__" = some (some (.ref fI))) (tI : PySem.W.typeIn X.K (.ref fI) = some (.type "function"))
    (F1 : L2.FnOk X.prog X.w X.K X.mg X.base CX k fI fd ps sp) (hr : L2.Room (k + 1) X.A) (hb : Binds X.K fd ps []) (hx : Passes CX X (fun _ _ _ => False)) (hex : X.ex = []) (hg : Gl X x) (hm : X.mg x = some (.ref C)) (ha : PA X (e :: es) ta)
    (hdb : (x == ("__debug__" : Str)) = false := by decide) (he : starEach (e :: es) X.env = (false, eval e X.env) :: starEach es X.env := by rfl) (hpl : (backTo pos (starEach es X.env)).any (·.1) = false := by rfl) :
    PMk X (.Call (.Name x p) (e :: es) [] pos) (tMade C sp ta) := by
  intro pins s σ H Q I h
  refine wpAny_Call_Name_kw (ld_glob I hg hm ?_ hdb)
  exact PySem.W.callWith_K (h₀ := X.base) I.ok.mod.kin O.kC (thn (ha.run pos pins s σ H _ I h) fun us s1 ⟨vs, H1, I1, r1, hz, q1⟩ => ⟨I1.kIn, made_call BK O iC tI F1 hr hb hx hex I1 r1 hz q1⟩) he hpl
end
end
end Lk

namespace Lk
open PySem PySem.Spec PyProof.Rows L2
/-- a class of exceptions as it is named -/
structure ClsK (K : PySem.W.Frag) (mg : Str → Option Value) (x : Str) (C : Addr) : Prop where
  g : mg x = some (.ref C)
  is : PySem.W.isClsIn K C = true
  ty : PySem.W.typeIn K (.ref C) = some (.type "type")
  ex : PySem.W.subIn K (.ref C) (.type "BaseException") = some true
  self : PySem.W.subIn K (.ref C) (.ref C) = some true
  non : PySem.W.subIn K (.type "NoneType") (.ref C) = some false
/-- an own class right over T that is raised: its __init__ stands at fI -/
structure OwnK (K : PySem.W.Frag) (mg : Str → Option Value) (x : Str) (T newId initId : String) (tn : Str) (C fI : Addr) : Prop extends ClsK K mg x C where
  O : OwnC K T newId C
  iC : PySem.W.findIn K (.ref C) "__init__" = some (some (.ref fI))
  tI : PySem.W.typeIn K (.ref fI) = some (.type "function")
  E : ExcC K C
  vB : PySem.W.findCls K (.type T) (.type "type") "__init__" = some (.val (.builtin initId))
  nB : mg tn = none
  sB : PySem.W.subIn K (.ref C) (.type T) = some true
section
variable {K : PySem.W.Frag} {mg : Str → Option Value} {x y tn : Str} {C D fI : Addr} {T newId initId : String} {b : Bool}
theorem OwnK.xf (O : OwnK K mg x T newId initId tn C fI) : XfC K C := ⟨O.E.hg, O.E.hk, O.E.hs, O.E.hd⟩
theorem ClsK.kit {t : Value} (k : ClsK K mg x C) (h : PySem.W.subIn K t (.ref C) = some b) : PySem.W.kitCls K t (.ref C) = some b := by
  have c : (PySem.W.clsIn K C).isSome = true := k.is
  unfold PySem.W.kitCls
  show (if ((PySem.W.clsIn K C).isSome && PySem.W.typeIn K (.ref C) == some (.type "type")) = true then PySem.W.subIn K t (.ref C) else none) = some b
  rw [if_pos (by rw [c, k.ty]; rfl)]
  exact h
/-- isinstance of the class D, C asked -/
theorem ClsK.one (k : ClsK K mg x C) (h : PySem.W.subIn K (.ref D) (.ref C) = some b) : PySem.W.kitOne K (.ref D) (.ref C) = some b := by
  unfold PySem.W.kitOne
  by_cases e : D = C
  · subst e
    rw [if_pos (by simp)]
    rw [k.self] at h
    exact h
  · rw [if_neg (by simpa using e)]
    exact k.kit h
theorem ClsK.none (k : ClsK K mg x C) : PySem.W.kitOne K (.type "NoneType") (.ref C) = some false := by
  unfold PySem.W.kitOne
  rw [if_neg (by simp)]
  exact k.kit k.non
end
/-- __init__ of one field: what it keeps, whatever text it makes of it -/
def spInit1 (C : Addr) (f : Str) : Sp := fun vs H Q _ => ∃ (a : Addr) (v : V), vs = [.ref a, v] ∧ H a = some (exo a C none) ∧ ((∃ i : Int, v = .int i ∧ i.natAbs.log2 < 900) ∨ ∃ z : Str, v = .str z ∧ z.length ≤ 1000) ∧
  ∀ dx, H dx = none → dx ≠ a → Q .non (upd (upd H dx (exd dx [(f, v)])) a (exo a C (some dx)))
end Lk
namespace Lk
open PySem PySem.Spec PyProof.Rows L2
theorem fit_k {a c : Str} {n m : Nat} (h : a.length ≤ n) (hc : c.length ≤ m) : (a ++ c).length ≤ n + m := by
  rw [Str.length_append]
  omega
theorem fit_line {a : Str} {n : Nat} (h : a.length ≤ n) (hn : n ≤ 9000) : a.length ≤ sizeLine := by
  rw [sizeLine_eq]
  omega
theorem int_len {i : Int} (h : i.natAbs.log2 < 900) : (Str.ofString (toString i)).length ≤ 1000 := by
  have q := int_text_length_le (by decide) h
  rw [PySem.ofString_length]
  omega
end Lk
set_option maxRecDepth 100000
set_option maxHeartbeats 4000000
namespace Lk
open PySem PySem.Spec PySem.Calls PyProof.Rows PySem.W
section
variable {M : Model} {K : Frag} {h : Heap} {A : Around} {E : Value → Shared → Prop}
end
end Lk
namespace Lk
open PySem PySem.Spec PyProof.Rows L2
/-- a caught exception, held as a value -/
def ExV (cls : Value) (d : Option Addr) (a : Addr) : HO := .ext fun h => ∃ (oe : Obj) (vs : Array Value), h.get? a = some oe ∧ Zc cls d oe ∧ oe.data = .fields vs
section
variable {X : Cx} {pins : List (Addr × Obj)} {σ : L2.St} {H : Hp} {s : Shared}
end
/-- the names of a tuple of classes -/
inductive TupNames (X : Cx) : List Expr → List Value → Prop
  | nil : TupNames X [] []
  | cons {x : Str} {c : Value} {np : Pos} {es : List Expr} {cs : List Value} (h : Names X x c) (r : TupNames X es cs) : TupNames X (.Name x np :: es) (c :: cs)
theorem TupNames.run {X : Cx} {es : List Expr} {cs : List Value} (T : TupNames X es cs) {a : Addr} {pn : List (Addr × Obj)} {σ : L2.St} {H : Hp} {s : Shared} {tpos : Pos} (S : Inv (X.suite a pn) [] σ H s) {E : Value → Shared → Prop} : ∀ {Q : List Value → Shared → Prop}, Q cs s →
    wpAny (model X.prog X.w) (X.A.mark (some (.ref a))) (spliced (backTo tpos (starEach es X.env))) Q E s := by
  induction T with
  | nil => intro Q q; exact wpAny_items_nil q
  | cons hc r ih =>
    intro Q q
    refine wpAny_items_cons ?_
    obtain ⟨hg, hdbg, hm | ⟨hm, hv, hnn⟩⟩ := hc
    · exact ld_glob (X := X.suite a pn) S hg hm (ih q) hdbg
    · exact ld_blt (X := X.suite a pn) S hg hm hv (ih q) hnn hdbg
theorem TupNames.length {X : Cx} {es : List Expr} {cs : List Value} (T : TupNames X es cs) : cs.length = es.length := by
  induction T with
  | nil => rfl
  | cons _ _ ih => rw [List.length_cons, List.length_cons, ih]
section
variable {X : Cx} {n : Str} {cs : List Value} {es : List Expr} {i kk : Nat} {body suite : List Stmt} {b₀ : Stmt} {tpos pos pos' : Pos} {tb : WX → TS} {ts : Addr → Value → Option Addr → TS} {Wout : WX}
end
end Lk
namespace Lk
open PySem PySem.Spec PySem.Calls PySem.W
section
variable {K : Frag} {D : Addr} {od : Option Obj}
end
end Lk
namespace Lk
open PySem PySem.Spec PyProof.Rows L2
/-- an exception that was caught stands at a, its fields (none, or those of its dict) -/
def Held (H : Hp) (a D : Addr) (fs : List (Str × V)) : Prop := ∃ d, H a = some (ExV (.ref D) d a) ∧ ((d = none ∧ fs = []) ∨ ∃ dd, d = some dd ∧ H dd = some (.xd fs))
theorem Held.look {P : Program} {w : World} {H : Hp} {h : Heap} {a D : Addr} {fs : List (Str × V)} (x : Held H a D fs) (ok : HOk P w H h) : ∃ oe od, PySem.W.InstAt h a oe D od ∧ ((od = none ∧ fs = []) ∨ ∃ (o : Obj) (mA : Str → Option Value), od = some o ∧ (∀ name, PySem.W.lookIn name o = some (mA name)) ∧ ∀ f, RelO (fs.lookup f) (mA f)) := by
  obtain ⟨d, ha, hd⟩ := x
  obtain ⟨⟨oe, vs, e, ⟨z1, z2⟩, hv⟩, _⟩ := (show ObjOk P w H h a (ExV (.ref D) d a) from ok a _ ha)
  have nc : PySem.W.notCls oe = true := by unfold PySem.W.notCls; rw [hv]
  rcases hd with ⟨rfl, hf⟩ | ⟨dd, rfl, hx⟩
  · exact ⟨oe, none, ⟨e, z1, nc, by rw [z2]; trivial⟩, .inl ⟨rfl, hf⟩⟩
  · obtain ⟨mA, n, r⟩ := (show ObjOk P w H h dd (.xd fs) from ok dd _ hx)
    obtain ⟨o, ho, hl⟩ := lookIn_ns n
    exact ⟨oe, some o, ⟨e, z1, nc, by rw [z2]; exact ho⟩, .inr ⟨o, mA, rfl, hl, r⟩⟩
section
variable {X : Cx}
end
end Lk
namespace Lk
open PySem PySem.Spec PyProof.Rows L2
theorem Held.same {H H' : Hp} {a D : Addr} {fs : List (Str × V)} (s : Same H H') (x : Held H a D fs) : Held H' a D fs := by
  obtain ⟨d, ha, hd⟩ := x
  exact ⟨d, s _ _ ha, hd.imp id fun ⟨dd, e, q⟩ => ⟨dd, e, s _ _ q⟩⟩
end Lk

namespace Lk
open PySem PySem.Spec PyProof.Rows L2
/-- as Cal, of a def that may raise -/
structure CalX (P : Program) (w : World) (K : PySem.W.Frag) (mg : Str → Option Value) (base : Heap) (k : Nat) (x : Str) (ps : List Str) (sp : Sp) : Prop where
  ex : ∃ f fd, FnOk P w K mg base (L2.CX P w) k f fd ps sp ∧ mg x = some (.ref f) ∧ PySem.W.keepIn K (.ref f) = true ∧ Binds K fd ps []
section
variable {X : Cx} {k m : Nat} {x : Str} {ps : List Str} {sp : Sp} {p pos : Pos} {e : Expr} {es : List Expr} {t : TA} {W : WX}
theorem pe_calX (C : CalX X.prog X.w X.K X.mg X.base k x ps sp) (hr : Room m X.A) (tw : Takes X W) (ha : PA X (e :: es) t) (hle : k ≤ m := by first | decide | omega) (hg : Gl X x := by rfl)
    (hdb : (x == ("__debug__" : Str)) = false := by decide) (he : starEach (e :: es) X.env = (false, eval e X.env) :: starEach es X.env := by rfl) (hpl : (backTo pos (starEach es X.env)).any (·.1) = false := by rfl) :
    PE X (.Call (.Name x p) (e :: es) [] pos) (tCallS sp (L2.WE W) t) := by
  obtain ⟨f, fd, F, hm, hk, hb⟩ := C.ex
  refine ⟨fun pins s σ H Q I h => ?_⟩
  refine wpAny_Call_Name_kw (ld_glob I hg hm (PySem.W.callWith_K (h₀ := X.base) I.ok.mod.kin hk (thn (ha.run pos pins s σ H _ I h) ?_) he hpl) hdb)
  rintro us s1 ⟨vs, H1, I1, rv, q⟩
  have bd := hb s1 us I1.kIn (by rw [List.append_nil]; exact rv.length.symm.trans (F.len _ _ _ _ q))
  rw [List.append_nil] at bd
  exact ⟨I1.kIn, fn_ranX (ar := ⟨us, []⟩) (F.mono hle) hr (passAt tw σ) I1 bd rv q⟩
end
end Lk
set_option maxRecDepth 100000
set_option maxHeartbeats 4000000
namespace Lk
open PySem PySem.Spec PyProof.Rows L2
end Lk
set_option maxRecDepth 100000
set_option maxHeartbeats 4000000
namespace Lk
open PySem PySem.Spec PyProof.Rows L2
/-! ### the first of the elders who is astray -/
def fstA (line : List Str) : Nat → List Str → Option Str
  | _, [] => none
  | h, x :: r => if x ∈ line ∧ h ≤ line.idxOf x then fstA line (line.idxOf x) r else some x
theorem fstA_nil {line : List Str} {h : Nat} : fstA line h [] = none := rfl
theorem fstA_go {line r : List Str} {h : Nat} {x : Str} (c : x ∈ line ∧ h ≤ line.idxOf x) : fstA line h (x :: r) = fstA line (line.idxOf x) r := if_pos c
theorem fstA_stop {line r : List Str} {h : Nat} {x : Str} (c : ¬ (x ∈ line ∧ h ≤ line.idxOf x)) : fstA line h (x :: r) = some x := if_neg c
theorem fstA_none {line : List Str} : ∀ {es : List Str} {h : Nat}, fstA line h es = none → InLine line es ∧ ∀ x ∈ es, h ≤ line.idxOf x
  | [], _, _ => ⟨⟨fun _ h => (nomatch h), .nil⟩, fun _ h => nomatch h⟩
  | y :: r, h, e => by
    by_cases c : y ∈ line ∧ h ≤ line.idxOf y
    · rw [fstA_go c] at e
      obtain ⟨⟨i1, i2⟩, i3⟩ := fstA_none e
      refine ⟨⟨fun x hx => (List.mem_cons.mp hx).elim (fun z => z ▸ c.1) (i1 x), List.pairwise_cons.mpr ⟨i3, i2⟩⟩, fun x hx => ?_⟩
      rcases List.mem_cons.mp hx with z | z
      · rw [z]
        exact c.2
      · exact Nat.le_trans c.2 (i3 x z)
    · rw [fstA_stop c] at e
      cases e
theorem drop_cons {α : Type} {l : List α} {i : Nat} {x : α} (h : l[i]? = some x) : l.drop i = x :: l.drop (i + 1) := by
  obtain ⟨b, e⟩ := List.getElem?_eq_some_iff.mp h
  rw [List.drop_eq_getElem_cons b, e]
/-- places of those in the line, no others -/
def CameJ (line : List Str) (i : Nat) (kvs : List (Key × V)) : Prop := CameTo line i kvs ∧ ∀ y, y ∉ line.take i → valV kvs (.inr y) = none
theorem came_stepJ {line : List Str} {i : Nat} {o : Str} {kvs : List (Key × V)} (hd : line.Nodup) (ho : line[i]? = some o) (h : CameJ line i kvs) : CameJ line (i + 1) (putK kvs (.inr o) (.int (i : Nat))) := by
  refine ⟨came_step hd ho h.1, fun y hy => ?_⟩
  rw [List.take_add_one, ho, List.mem_append] at hy
  rw [valV_put, if_neg (fun z => hy (.inr (by cases Sum.inr.inj z; exact List.mem_singleton.mpr rfl)))]
  exact h.2 y fun z => hy (.inl z)
theorem TupAt.but {K : PySem.W.Frag} {H : Hp} {e : Addr} {elders : List Str} (h : TupAt H e (elders.map V.str)) : ButKeeps K H e elders := fun H' s => .inr (h.same s).sq
end Lk
namespace Lk
open PySem PySem.Spec PyProof.Rows L2
end Lk
set_option maxRecDepth 100000
set_option maxHeartbeats 4000000
namespace Lk
open PySem PySem.Spec PyProof.Rows L2
/-! ### the set of a tuple of texts, some twice -/
section
variable {P : Program} {w : World} {A : Around} {E : Value → Shared → Prop} {s : Shared}
theorem set_strsTD {l : Addr} {its : List Value} {xs : List Str} {Q : Value → Shared → Prop} (hh : A.handled = none) (hl : s.heap.IsTuple l its.toArray) (hi : PyProof.Rows.StrsAre its xs) (few : ∀ us : List Str, us.Nodup → (∀ y ∈ us, y ∈ xs) → us.length + 1 < scanBound)
    (h : ∀ (h' : Heap) (tk : Nat) (us : List Str), us.Nodup → (∀ y, y ∈ us ↔ y ∈ xs) → h'.SetOf (PySem.strKind P w) s.heap.objs.size (fun y => decide (y ∈ us)) us.length → (∀ b o, s.heap.get? b = some o → h'.get? b = some o) → Q (.ref s.heap.objs.size) { s with heap := h', toks := tk }) :
    wpAny (model P w) A (call (.type "set") [.ref l]) Q E s := by
  obtain ⟨c, tl, hmro⟩ := PySem.F.called_set.mro
  have k1 := PySem.F.called_set.made
  have k2 := PySem.F.called_set.sub
  refine wpAny_call (codeAny_of_tree (show wpAny _ _ (callAny (.type "set") _) _ _ _ from wpAny_pure ⟨Code.quiet_builtin _ (by decide +kernel), codeAny_builtin PySem.F.entry_type_call ?_⟩))
  rw [Around.under_plain (weight_type_call_type "set" [.ref l] []) rfl]
  have k3 := PySem.F.called_set.notType
  have k4 := PySem.F.called_set.canCreate
  have k5 := PySem.F.typeCall_set_1 (.ref l)
  repeat (any_goals (first | assumption | wp_step))
  refine codeAny_mono (code_set_new_1 (.ref l) (E := E) (Q₁ := fun obj s1 => ∃ led : Bool, obj = .ref s.heap.objs.size ∧ s1 = { s with heap := s.heap.push (setOb led) }) fun led => ⟨led, rfl, rfl⟩) fun r s1 hr => ?_
  match r, hr with
  | .error e, hr => exact hr
  | .ok .next, hr => exact hr.elim
  | .ok .brk, hr => exact hr.elim
  | .ok .cont, hr => exact hr.elim
  | .ok (.ret obj), hr =>
    obtain ⟨led, rfl, rfl⟩ := hr
    have gS : (s.heap.push (setOb led)).get? s.heap.objs.size = some (setOb led) := Heap.get?_push_size _ rfl
    have tS : Shared.TypeIs { s with heap := s.heap.push (setOb led) } (.ref s.heap.objs.size) "set" := ⟨_, gS, rfl⟩
    have k6 := PySem.F.called_set.init.lookup
    have k7 := PySem.F.called_set.init.bind (.ref s.heap.objs.size)
    repeat (any_goals (first | assumption | wp_step))
    refine codeAny_mono (codeAny_call_builtin (R := wants (fun r s2 => r = .none ∧ ∃ h' tk, s2 = { s with heap := h', toks := tk } ∧ ∃ us : List Str, us.Nodup ∧ (∀ y, y ∈ us ↔ y ∈ xs) ∧ h'.SetOf (PySem.strKind P w) s.heap.objs.size (fun y => decide (y ∈ us)) us.length ∧ (∀ b o, s.heap.get? b = some o → h'.get? b = some o)) E)
      PySem.F.called_set.init.plain PySem.F.entry_set_init (check_set_init_1 tS ?_)) fun r2 s2 hr2 => ?_
    · obtain ⟨⟨oc, od, oa, os⟩, lo, lc, nl, ld⟩ := hl
      simp only at lc ld
      subst lc ld
      have lt : l < s.heap.objs.size := Heap.lt_size lo
      have lo1 : (s.heap.push (setOb led)).get? l = some { cls := .type "tuple", dict := od, data := .seq its.toArray nl, slots := os } := Heap.get?_push_of_some _ lo
      have k8 := PySem.F.sub_tuple_set
      have k9 := PySem.F.sub_tuple_frozenset
      have k10 : (Value.type "tuple" == Value.type "dict") = false := by decide
      have l1 : (s.heap.push (setOb led)).IsTuple l its.toArray := ⟨_, lo1, rfl, nl, rfl⟩
      unfold Builtin.«set.__init__» noKeywords Builtin.Frozenset.updateFrom
      generalize hP : pyIter = Pi
      wp_walk
      subst hP
      refine wpAny_pyIter_tuple l1 (wpAny_bind (wpAny_runValue ?_))
      have sz : (s.heap.push (setOb led)).objs.size = s.heap.objs.size + 1 := Heap.size_push ..
      have ni : l ≠ (s.heap.push (setOb led)).objs.size := by rw [sz]; exact Nat.ne_of_lt (Nat.lt_succ_of_lt lt)
      have h3 : A.in1.in1.in1.handled = none := by simp [hh]
      have nf : s.heap.objs.size ∉ [(s.heap.push (setOb led)).objs.size, l] := fun z => by
        rcases List.mem_cons.mp z with z | z
        · rw [sz] at z
          exact Nat.ne_of_lt (Nat.lt_succ_self _) z
        · exact Nat.ne_of_gt lt (List.mem_singleton.mp z)
      have el : xs.length = its.toArray.size := by rw [← StrsAre.len_eq hi, List.size_toArray]
      refine strs_loopD ((Walks.tuple h3 _ l ni its.toArray).toS) nf el few (fun i v hv => ?_) its.toArray.size 0 _ [] (Nat.zero_add _) ⟨⟨_, Heap.get?_push_size _ rfl, rfl, rfl⟩, l1.push _⟩ List.nodup_nil (fun y => by simp) ?_ fun s' us hm nu mu so => ?_
      · obtain ⟨t, e⟩ := SS.strs_at hi i v (by rw [← Array.getElem?_toList] at hv; simpa using hv)
        have li : i < xs.length := by
          have := (Array.getElem?_eq_some_iff.mp hv).1
          omega
        exact ⟨xs.getD i Str.empty, t, by rw [List.getD_eq_getElem?_getD, List.getElem?_eq_getElem li]; rfl, e⟩
      · have g2 := Heap.get?_push_of_some { cls := .type "tuple_iterator", data := .fields #[.ref l, .int 0 0] } gS
        exact SetOf_congr ((setObjOf_fresh (knd := PySem.strKind P w) led).setOf g2 (by unfold scanBound; omega)) (fun _ => rfl) rfl
      · obtain ⟨h', g', d', tk', os'⟩ := s'
        obtain rfl : g' = s.gens := hm.gens
        obtain rfl : d' = s.drawn := hm.drawn
        obtain rfl : os' = s.os := hm.os
        refine wpAny_pure (show wpAny _ _ (ret Value.none) _ _ _ from wpAny_pure ⟨rfl, h', tk', rfl, us, nu, mu, so, fun b o z => ?_⟩)
        have bl := Heap.lt_size z
        refine hm.heap b o (fun q => ?_) (Heap.get?_push_of_some _ (Heap.get?_push_of_some _ z))
        rcases List.mem_cons.mp q with q | q
        · exact Nat.ne_of_lt bl q
        · have := List.mem_singleton.mp q
          rw [sz] at this
          exact Nat.ne_of_lt (Nat.lt_succ_of_lt bl) this
    · match r2, hr2 with
      | .error e, hr2 => exact hr2
      | .ok .next, hr2 => exact hr2.elim
      | .ok .brk, hr2 => exact hr2.elim
      | .ok .cont, hr2 => exact hr2.elim
      | .ok (.ret r), hr2 =>
        obtain ⟨rfl, h', tk, rfl, us, nu, mu, so, kp⟩ := hr2
        repeat (any_goals (first | assumption | wp_step))
        exact h _ _ us nu mu so kp
end
section
variable {X : Cx}
def tLenStrsTD (K : PySem.W.Frag) (ta : TE) : TE := fun σ H Q => ta σ H fun x H1 => ∃ (l : Addr) (xs : List Str), x = .ref l ∧ TupAt H1 l (xs.map V.str) ∧ xs.length ≤ 100 ∧ ∀ us : List Str, us.Nodup → (∀ y, y ∈ us ↔ y ∈ xs) → Q (.int us.length) H1
theorem pe_lenStrsTD {a : Expr} {ta : TE} {p p2 q pos : Pos} (hc : X.calm = true) (hg : Gl X "len") (hm : X.mg "len" = none) (hg2 : Gl X "set") (hm2 : X.mg "set" = none) (ha : PE X a ta)
    (na : starEach [a] X.env = (false, eval a X.env) :: starEach [] X.env := by rfl) : PE X (.Call (.Name "len" p) [.Call (.Name "set" p2) [a] [] q] [] pos) (tLenStrsTD X.K ta) := by
  refine ⟨fun pins s σ H Q I h => Call_ (ld_blt I hg hm PySem.boot_len (PyProof.Rows.callWith_builtin1 (PyProof.Rows.args_cons (Call_ (ld_blt I hg2 hm2 PyProof.Rows.boot_set ?_)) rfl) rfl rfl))⟩
  refine PyProof.Rows.callWith_type1 (PyProof.Rows.args_cons (thn (ha.run pins s σ H _ I h) fun v s1 ⟨x, H1, I1, r1, q1⟩ => PyProof.Rows.args_nil ?_) na) na rfl
  obtain ⟨l, xs, rfl, e, few, q1⟩ := q1
  cases r1
  obtain ⟨its, r, pl, _⟩ := I1.tuple (e.sq (K := X.K))
  refine set_strsTD (xs := xs) (I1.ok.hd hc) pl (by simpa using strsAre_of r) (fun us nu su => by
    have := nd_lenS us xs nu su
    unfold scanBound
    omega) fun h' tk us nu mu so kp => PyProof.Rows.args_nil ?_
  have lu : us.length ≤ 100 := Nat.le_trans (nd_lenS us xs nu fun y hy => (mu y).mp hy) few
  obtain ⟨o, es, ep, t, ho, ex, hd, _, _, _, hf, hn⟩ := so
  exact call_len_set ho ex hd hf (by rw [hn] <;> omega) ⟨.int us.length, H1, (I1.kept fun b o z => kp b o z).tok _, ⟨_, by rw [hn]⟩, q1 us nu mu⟩
end
end Lk
set_option maxRecDepth 100000
set_option maxHeartbeats 4000000
namespace Lk
open PySem PySem.Spec PyProof.Rows L2
/-! ### sights -/
abbrev Sg := Nat × List Str
abbrev LS := Addr × Nat × Addr × List Str
def sgOf (q : LS) : Sg := (q.2.1, q.2.2.2)
def refsS (qs : List LS) : List V := qs.map fun q => V.ref q.1
def SightAt (H : Hp) (q : LS) : Prop := H q.1 = some (.tup [.int (q.2.1 : Nat), .ref q.2.2.1]) ∧ TupAt H q.2.2.1 (q.2.2.2.map V.str)
def SightsAt (H : Hp) (qs : List LS) : Prop := ∀ q ∈ qs, SightAt H q
theorem SightAt.same {H H' : Hp} {q : LS} (s : Same H H') (h : SightAt H q) : SightAt H' q := ⟨s _ _ h.1, h.2.same s⟩
theorem SightsAt.same {H H' : Hp} {qs : List LS} (s : Same H H') (h : SightsAt H qs) : SightsAt H' qs := fun q hq => (h q hq).same s
theorem SightAt.oth {H H' : Hp} {b : Addr} {q : LS} (o : Oth b H H') (hb : IsBox H b) (h : SightAt H q) : SightAt H' q := ⟨o _ _ (hb.ne_tup h.1) h.1, h.2.oth o hb⟩
theorem SightsAt.oth {H H' : Hp} {b : Addr} {qs : List LS} (o : Oth b H H') (hb : IsBox H b) (h : SightsAt H qs) : SightsAt H' qs := fun q hq => (h q hq).oth o hb
def canS (gone : List Str) (a s : Sg) : Bool := decide (a.1 ≤ s.1) && decide (s.1 ≤ gone.length) && decide ((gone.take s.1 ++ s.2).Nodup) && decide (fstA (gone.take s.1 ++ s.2) 0 a.2 = none)
/-- the first one that can't be -/
def badS (gone : List Str) : Sg → Nat → List Sg → Option Nat
  | _, _, [] => none
  | a, k, s :: r => if canS gone a s = true then badS gone s (k + 1) r else some k
def ahdS (ss : List Sg) : List Sg := (0, []) :: ss.dropLast
/-- between, row, elders -/
abbrev Pt := List Str × List Str × List Str
def partOf (gone : List Str) (a s : Sg) : Pt := ((gone.take s.1).drop a.1, s.2, a.2)
def partsS (gone : List Str) (ss : List Sg) : List Pt := ((ahdS ss).zip ss).map fun p => partOf gone p.1 p.2
theorem cutL_but {α : Type} (xs : List α) : cutL xs none (some (-1)) = xs.dropLast := by
  unfold cutL
  rw [HT.sIx_none, List.drop_zero, Nat.sub_zero, List.dropLast_eq_take]
  show xs.take (if (-1 : Int) < 0 then ((-1 : Int) + (xs.length : Int)).toNat else min (-1 : Int).toNat xs.length) = _
  rw [if_pos (by decide), show ((-1 : Int) + (xs.length : Int)).toNat = xs.length - 1 by omega]
theorem ahdS_len {ss : List Sg} (h : ss ≠ []) : (ahdS ss).length = ss.length := by
  unfold ahdS
  rw [List.length_cons, List.length_dropLast]
  have := List.length_pos_iff.mpr h
  omega
theorem badS_none {gone : List Str} : ∀ {ss : List Sg} {a : Sg} {k : Nat}, badS gone a k ss = none → ∀ (i : Nat) (p s : Sg), (a :: ss)[i]? = some p → ss[i]? = some s → canS gone p s = true
  | [], _, _, _, i, _, s, _, h => by cases h
  | t :: r, a, k, h, i, p, s, h1, h2 => by
    have h' : (if canS gone a t = true then badS gone t (k + 1) r else some k) = none := h
    by_cases c : canS gone a t = true
    · rw [if_pos c] at h'
      cases i with
      | zero => cases h1; cases h2; exact c
      | succ i => exact badS_none h' i p s h1 h2
    · rw [if_neg c] at h'
      cases h'
theorem ahdS_at {ss : List Sg} {i : Nat} {s : Sg} (h : ss[i]? = some s) : (ahdS ss)[i]? = ((0, []) :: ss)[i]? := by
  unfold ahdS
  cases i with
  | zero => rfl
  | succ i =>
    rw [List.getElem?_cons_succ, List.getElem?_cons_succ, List.getElem?_dropLast, if_pos]
    have := (List.getElem?_eq_some_iff.mp h).1
    omega
theorem partsS_len (gone : List Str) (ss : List Sg) : (partsS gone ss).length = ss.length := by
  unfold partsS
  rw [List.length_map, List.length_zip]
  by_cases h : ss = []
  · subst h
    rfl
  · rw [ahdS_len h, Nat.min_self]
theorem partsS_at {gone : List Str} {ss : List Sg} {i : Nat} {p s : Sg} (h1 : (ahdS ss)[i]? = some p) (h2 : ss[i]? = some s) : (partsS gone ss)[i]? = some (partOf gone p s) := by
  unfold partsS
  rw [List.getElem?_map, List.getElem?_zip_eq_some (z := (p, s)) |>.mpr ⟨h1, h2⟩]
  rfl
/-- what holds of a part, where all can be seen -/
structure PartOk (gone : List Str) (a s : Sg) : Prop where
  le : a.1 ≤ s.1
  lg : s.1 ≤ gone.length
  nd : (gone.take s.1 ++ s.2).Nodup
  il : InLine ((gone.take s.1).drop a.1 ++ s.2) a.2
  nd2 : ((gone.take s.1).drop a.1 ++ s.2).Nodup
theorem canS_iff {gone : List Str} {a s : Sg} : canS gone a s = true ↔ a.1 ≤ s.1 ∧ s.1 ≤ gone.length ∧ (gone.take s.1 ++ s.2).Nodup ∧ fstA (gone.take s.1 ++ s.2) 0 a.2 = none := by
  unfold canS
  simp only [Bool.and_eq_true, decide_eq_true_eq]
  exact ⟨fun ⟨⟨⟨h1, h2⟩, h3⟩, h4⟩ => ⟨h1, h2, h3, h4⟩, fun ⟨h1, h2, h3, h4⟩ => ⟨⟨⟨h1, h2⟩, h3⟩, h4⟩⟩
theorem inLine_drop {pre line es : List Str} (nd : (pre ++ line).Nodup) (h : InLine (pre ++ line) es) (off : ∀ x ∈ es, x ∉ pre) : InLine line es := by
  have idx : ∀ x ∈ es, (pre ++ line).idxOf x = pre.length + line.idxOf x := fun x hx => by
    rw [List.idxOf_append, if_neg (off x hx), Nat.add_comm]
  refine ⟨fun x hx => ?_, ?_⟩
  · rcases List.mem_append.mp (h.1 x hx) with z | z
    · exact absurd z (off x hx)
    · exact z
  · refine List.pairwise_iff_getElem.mpr fun i j hi hj hij => ?_
    have q := List.pairwise_iff_getElem.mp h.2 i j hi hj hij
    rw [idx _ (List.getElem_mem hi), idx _ (List.getElem_mem hj)] at q
    omega
theorem part_ok {gone : List Str} {a s : Sg} (h : canS gone a s = true) (ha : (gone.take a.1 ++ a.2).Nodup) : PartOk gone a s := by
  obtain ⟨h1, h2, h3, h4⟩ := canS_iff.mp h
  obtain ⟨il, _⟩ := fstA_none h4
  have e : gone.take s.1 = gone.take a.1 ++ (gone.take s.1).drop a.1 := by
    have q := (List.take_append_drop a.1 (gone.take s.1)).symm
    rw [List.take_take, Nat.min_eq_left h1] at q
    exact q
  have e2 : gone.take s.1 ++ s.2 = gone.take a.1 ++ ((gone.take s.1).drop a.1 ++ s.2) := by rw [← List.append_assoc, ← e]
  refine ⟨h1, h2, h3, ?_, ?_⟩
  · rw [e2] at il h3
    refine inLine_drop h3 il fun x hx hp => ?_
    exact (List.nodup_append.mp ha).2.2 x hp x hx rfl
  · rw [e2] at h3
    exact (List.nodup_append.mp h3).2.1
/-- all parts, where none is bad -/
theorem parts_ok {gone : List Str} {ss : List Sg} (h : badS gone (0, []) 0 ss = none) : ∀ (i : Nat) (p s : Sg), (ahdS ss)[i]? = some p → ss[i]? = some s → PartOk gone p s := fun i p s h1 h2 => by
  rw [ahdS_at h2] at h1
  have c := badS_none h i p s h1 h2
  refine part_ok c ?_
  cases i with
  | zero =>
    cases h1
    exact List.nodup_nil
  | succ i =>
    rw [List.getElem?_cons_succ] at h1
    obtain ⟨p0, h0⟩ : ∃ p0, ((0, []) :: ss)[i]? = some p0 := ⟨_, List.getElem?_eq_getElem (by
      have := (List.getElem?_eq_some_iff.mp h1).1
      rw [List.length_cons]
      omega)⟩
    exact (canS_iff.mp (badS_none h i p0 p h0 h1)).2.2.1
/-! ### promises -/
def spAhead : Sp := fun vs H Q _ => ∃ (p : Addr) (qs : List LS), vs = [.ref p] ∧ H p = some (.lst (refsS qs)) ∧ SightsAt H qs ∧ qs.length ≤ 100 ∧
  ∀ l T r H', Same H H' → H l = none → H' l = some (.lst (refsS ((T, 0, r, []) :: qs.dropLast))) → SightAt H' (T, 0, r, []) → Q (.ref l) H'
/-- a stretch: its triple, between, row, elders -/
abbrev LT := Addr × Addr × Addr × Addr × Pt
def StretchAt (H : Hp) (q : LT) : Prop := TupAt H q.1 [.ref q.2.1, .ref q.2.2.1, .ref q.2.2.2.1] ∧ TupAt H q.2.1 (q.2.2.2.2.1.map V.str) ∧ TupAt H q.2.2.1 (q.2.2.2.2.2.1.map V.str) ∧ TupAt H q.2.2.2.1 (q.2.2.2.2.2.2.map V.str)
theorem StretchAt.same {H H' : Hp} {q : LT} (s : Same H H') (h : StretchAt H q) : StretchAt H' q := ⟨h.1.same s, h.2.1.same s, h.2.2.1.same s, h.2.2.2.same s⟩
def refsP (qs : List LT) : List V := qs.map fun q => V.ref q.1
def spStretch : Sp := fun vs H Q _ => ∃ (sv p : Addr) (gone : List Str) (qs : List LS), vs = [.ref sv, .ref p] ∧ TupAt H sv (gone.map V.str) ∧ H p = some (.lst (refsS qs)) ∧ SightsAt H qs ∧ qs ≠ [] ∧ qs.length ≤ 100 ∧ (∀ (i : Nat) (a s : Sg), (ahdS (qs.map sgOf))[i]? = some a → (qs.map sgOf)[i]? = some s → a.1 ≤ s.1 ∧ s.1 ≤ gone.length) ∧
  ∀ l (ts : List LT) H', Same H H' → H l = none → H' l = some (.lst (refsP ts)) → (∀ q ∈ ts, StretchAt H' q) → ts.map (fun q => q.2.2.2.2) = partsS gone (qs.map sgOf) → Q (.ref l) H'
/-- a history for each part, or the first paper -/
abbrev LHs := Addr × List LD
def SeenAt (H : Hp) (T : Addr) (ps : List (Str × Str)) (pts : List Pt) : Prop :=
  (∃ (p : Addr) (hs : List LHs), TupAt H T [.str "deeds", .ref p] ∧ H p = some (.lst (hs.map fun q => V.ref q.1)) ∧ hs.length = pts.length ∧ ∀ (i : Nat) (q : LHs) (pt : Pt), hs[i]? = some q → pts[i]? = some pt →
    leftL ps pt.2.2 pt.1 pt.2.1 = [] ∧ H q.1 = some (.lst (refsD q.2)) ∧ DeedsAt H q.2 ∧ q.2.map (·.2) = (trace ps (stayF pt.2.2 none) pt.1 pt.1.length pt.2.1).1.reverse) ∨
  (∃ (i : Nat) (pt : Pt) (U p : Addr) (rs : List LR), TupAt H T [.str "none", .ref U] ∧ TupAt H U [.int (i : Nat), .ref p] ∧ pts[i]? = some pt ∧ (∀ (j : Nat) (pj : Pt), j < i → pts[j]? = some pj → leftL ps pj.2.2 pj.1 pj.2.1 = []) ∧ leftL ps pt.2.2 pt.1 pt.2.1 ≠ [] ∧
    H p = some (.lst (refsR rs)) ∧ ReasonsAt H rs ∧ rs.map (fun q => q.2.2) = (leftL ps pt.2.2 pt.1 pt.2.1).map (fun x => (x, reasonOf ps (pt.1 ++ pt.2.1) pt.1.length (leftL ps pt.2.2 pt.1 pt.2.1 ++ pt.2.2) x)))
/-- where no error leaves it -/
theorem FnOk.to0 {P : Program} {w : World} {K : PySem.W.Frag} {mg : Str → Option Value} {base : Heap} {k : Nat} {f : Addr} {fd : FuncData} {ps : List Str} {sp : Sp} (F : FnOk P w K mg base (L2.CX P w) k f fd ps sp) : FnOk P w K mg base CX0 k f fd ps (fun vs H Q _ => sp vs H Q fun _ _ _ => False) :=
  ⟨fun vs H Q E h => F.len vs H Q _ h, fun A out s H ar us vs Q E z e b v m => codeAny_mono (F.run A out s H ar us vs Q _ z e b v m) fun r s' q => by
    rcases r with e | fl
    · obtain ⟨_, _, _, _, _, _, _, _, _, _, _, _, no⟩ := (show L2.CX P w out H s (fun _ _ _ => False) e s' from q)
      exact no.elim
    · cases fl <;> exact q⟩
def no_E (sp : Sp) : Sp := fun vs H Q _ => sp vs H Q fun _ _ _ => False
/-! ### walks -/
theorem walk_zipL {K : PySem.W.Frag} {a b : Addr} {xs ys : List V} {n : Nat} (hn : n = min xs.length ys.length) : Walk (Itz K a b) n (fun H => SqL K H a xs ∧ SqL K H b ys) (YPair (fun i => xs[i]?) (fun i => ys[i]?)) := by
  subst hn
  refine ⟨fun i _ hi q => ?_, fun _ q => ⟨xs, ys, q.1, q.2, by omega⟩, fun i H v H' _ q y => ?_⟩
  · have h1 : i < xs.length := by omega
    have h2 : i < ys.length := by omega
    exact ⟨xs, ys, xs[i], ys[i], q.1, q.2, by simp [h1], by simp [h2]⟩
  · obtain ⟨T, x, z, h1, h2, h3, h4, h5⟩ := y
    exact ⟨T, x, z, h1, h2, h3, h4 xs q.1, h5 ys q.2⟩
theorem nodup_of_len : ∀ {line us : List Str}, us.Nodup → (∀ y ∈ line, y ∈ us) → line.length ≤ us.length → (∀ y ∈ us, y ∈ line) → line.Nodup
  | [], _, _, _, _, _ => List.nodup_nil
  | x :: l, us, nu, h, le, hb => by
    have hx := h x List.mem_cons_self
    have e := nu.erase x
    have me : ∀ y, y ∈ us.erase x ↔ y ≠ x ∧ y ∈ us := fun y => nu.mem_erase_iff
    have le' : (us.erase x).length + 1 = us.length := by
      rw [List.length_erase_of_mem hx]
      have := List.length_pos_of_mem hx
      omega
    have nx : x ∉ l := fun z => by
      have s1 : ∀ y ∈ us, y ∈ l := fun y hy => by
        rcases List.mem_cons.mp (hb y hy) with q | q
        · subst q; exact z
        · exact q
      have := nd_lenS us l nu s1
      have : (x :: l).length = l.length + 1 := rfl
      omega
    refine List.nodup_cons.mpr ⟨nx, nodup_of_len e (fun y hy => (me y).mpr ⟨fun q => nx (q ▸ hy), h y (List.mem_cons_of_mem _ hy)⟩) ?_ fun y hy => ?_⟩
    · have : (x :: l).length = l.length + 1 := rfl
      omega
    · rcases List.mem_cons.mp (hb y ((me y).mp hy).2) with q | q
      · exact absurd q ((me y).mp hy).1
      · exact q
/-! ### histories that are new -/
def spTracedF (K : PySem.W.Frag) : Sp := fun vs H Q _ => ∃ (a sv r e wd : Addr) (ps : List (Str × Str)) (svd row elders : List Str) (ws : Option (Str × Nat)), vs = [.ref a, .ref sv, .ref r, .ref e, .ref wd] ∧ FrAt H a ps ∧ ps.length ≤ 1000 ∧ Irr ps ∧ RowAt H sv svd ∧ RowAt H r row ∧ ButKeeps K H e elders ∧ H wd = some (.dK (waitsL ws)) ∧ (svd ++ row).Nodup ∧ svd.length + row.length ≤ 60 ∧ elders.length ≤ 60 ∧
  ∀ T u l (ds : List LD) H', Same H H' → H u = none → H' T = some (.tup [.ref u, .ref l]) → H' u = some (.lst (refsD ds)) → DeedsAt H' ds → ds.map (·.2) = (trace ps (stayF elders ws) svd svd.length row).1.reverse → TupAt H' l (((trace ps (stayF elders ws) svd svd.length row).2.filter fun x => !decide (x ∈ elders)).map V.str) → Q (.ref T) H'
theorem told_inj {H : Hp} {T u v : Addr} {x y : Str} (h : TupAt H T [.str x, .ref u]) (k : TupAt H T [.str y, .ref v]) : x = y ∧ u = v := by
  obtain ⟨o, _, h2⟩ := h
  obtain ⟨o', _, k2⟩ := k
  have e := h2.symm.trans k2
  cases e
  exact ⟨rfl, rfl⟩
theorem Cal.imp {P : Program} {w : World} {K : PySem.W.Frag} {mg : Str → Option Value} {base : Heap} {k : Nat} {x : Str} {ps : List Str} {sp sq : Sp} (C : Cal P w K mg base k x ps sp) (h : ∀ vs H Q E, sq vs H Q E → sp vs H Q E) : Cal P w K mg base k x ps sq := by
  obtain ⟨f, fd, F, r⟩ := C
  exact ⟨f, fd, F.imp h, r⟩
theorem CalK.imp {P : Program} {w : World} {K : PySem.W.Frag} {mg : Str → Option Value} {base : Heap} {k n : Nat} {x kw : Str} {ps : List Str} {sp sq : Sp} {D : Addr} (C : CalK P w K mg base k x ps n kw sp D) (h : ∀ vs H Q E, sq vs H Q E → sp vs H Q E) : CalK P w K mg base k x ps n kw sq D := by
  obtain ⟨⟨f, fd, F, r⟩, e⟩ := C
  exact ⟨⟨f, fd, F.imp h, r⟩, e⟩
theorem traced_weak {K : PySem.W.Frag} (vs : List V) (H : Hp) (Q : VK) (E : XK) (h : spTraced K vs H Q E) : spTracedF K vs H Q E := by
  obtain ⟨a, sv, r, e, wd, ps, svd, row, elders, ws, h1, h2, h3, h4, h5, h6, h7, h8, h9, h10, h11, q⟩ := h
  exact ⟨a, sv, r, e, wd, ps, svd, row, elders, ws, h1, h2, h3, h4, h5, h6, h7, h8, h9, h10, h11, fun T u l ds H' s _ => q T u l ds H' s⟩
/-- what each part has -/
structure PartGood (pt : Pt) : Prop where
  il : InLine (pt.1 ++ pt.2.1) pt.2.2
  nd : (pt.1 ++ pt.2.1).Nodup
  ln : pt.1.length + pt.2.1.length ≤ 60
  le : pt.2.2.length ≤ 60
theorem parts_good {gone : List Str} {ss : List Sg} (h : badS gone (0, []) 0 ss = none) (few : ∀ s ∈ ss, gone.length + s.2.length ≤ 60) (i : Nat) (pt : Pt) (hp : (partsS gone ss)[i]? = some pt) : PartGood pt := by
  have hi : i < ss.length := by rw [← partsS_len gone ss]; exact (List.getElem?_eq_some_iff.mp hp).1
  obtain ⟨s, hs⟩ : ∃ s, ss[i]? = some s := ⟨_, List.getElem?_eq_getElem hi⟩
  have e1 := ahdS_at hs
  obtain ⟨a, ha⟩ : ∃ a, ((0, []) :: ss)[i]? = some a := ⟨_, List.getElem?_eq_getElem (by rw [List.length_cons]; omega)⟩
  have ha' := e1.trans ha
  have ok := parts_ok h i a s ha' hs
  rw [partsS_at ha' hs] at hp
  cases hp
  have fs := few s (List.mem_of_getElem? hs)
  refine ⟨ok.il, ok.nd2, ?_, ?_⟩
  · show ((gone.take s.1).drop a.1).length + s.2.length ≤ 60
    rw [List.length_drop, List.length_take]
    omega
  · show a.2.length ≤ 60
    rcases List.mem_cons.mp (List.mem_of_getElem? ha) with z | z
    · rw [z]; exact Nat.zero_le _
    · have := few a z
      omega
/-! ### what a story shows -/
section
variable {ps : List (Str × Str)}
end
/-! ### bad sights by what stands between -/
theorem inLine_filter {line es : List Str} (nl : line.Nodup) (ne : es.Nodup) : InLine line es ↔ line.filter (fun x => decide (x ∈ es)) = es := by
  constructor
  · intro h
    have pm : (line.filter (fun x => decide (x ∈ es))).Perm es := (List.perm_ext_iff_of_nodup (nl.filter _) ne).mpr fun x => by
      rw [List.mem_filter]
      exact ⟨fun z => of_decide_eq_true z.2, fun z => ⟨h.1 x z, decide_eq_true z⟩⟩
    have pw : (line.filter (fun x => decide (x ∈ es))).Pairwise fun x y => line.idxOf x ≤ line.idxOf y := (inLine_self nl).sublist List.filter_sublist
    refine List.Perm.eq_of_pairwise (le := fun a b => line.idxOf a ≤ line.idxOf b) (fun x y hx hy h1 h2 => ?_) pw h.2 pm
    have e : line.idxOf x = line.idxOf y := Nat.le_antisymm h1 h2
    have hx' : x ∈ line := (List.mem_filter.mp hx).1
    have l1 := List.idxOf_lt_length_of_mem hx'
    have z1 := List.getElem_idxOf l1
    have l2 := List.idxOf_lt_length_of_mem (h.1 y hy)
    have z2 := List.getElem_idxOf l2
    rw [← z1, ← z2]
    congr 1
  · intro h
    rw [← h]
    exact inLine_sub nl List.filter_sublist
/-! ### the law's sights -/
/-- what is found at a cut: its pair, who were served, who stand -/
abbrev FI := Addr × Addr × Addr × List Str × List Str
/-! ### sights told otherwise -/
/-! ### the law's parts -/
end Lk
set_option maxRecDepth 100000
set_option maxHeartbeats 4000000
namespace Lk
open PySem PySem.Spec PyProof.Rows L2
/-! ### for pair in zip(list, list): the pair stays whole, and the next one is a new tuple -/
section
variable {prog : Program} {w : World} {A : Around} {E : Value → Shared → Prop} {s : Shared}
end
end Lk
set_option maxRecDepth 100000
set_option maxHeartbeats 4000000
namespace Lk
open PySem PySem.Spec PyProof.Rows L2
/-! ### zip of a list with a list or a tuple -/
def It2 (b : Bool) (h : Heap) (i l : Addr) (k : Nat) : Prop := ∃ o, h.get? i = some o ∧ o.cls = .type (cond b "tuple_iterator" "list_iterator") ∧ o.data = .fields #[.ref l, .int k 0]
def Sq2 (b : Bool) (h : Heap) (l : Addr) (xs : Array Value) : Prop := ∃ o, h.get? l = some o ∧ o.cls = .type (cond b "tuple" "list") ∧ ∃ n, o.data = .seq xs n
theorem It2.at {b : Bool} {h h' : Heap} {i l : Addr} {k : Nat} (x : It2 b h i l k) (kp : ∀ o, h.get? i = some o → h'.get? i = some o) : It2 b h' i l k := let ⟨o, e, r⟩ := x; ⟨o, kp o e, r⟩
theorem It2.extBut {b : Bool} {h h' : Heap} {i l c : Addr} {k : Nat} (x : It2 b h i l k) (hs : Heap.ExtBut c h h') (ne : i ≠ c) : It2 b h' i l k := x.at fun o e => hs i o ne e
theorem Sq2.extBut {b : Bool} {h h' : Heap} {l c : Addr} {xs : Array Value} (x : Sq2 b h l xs) (hs : Heap.ExtBut c h h') (ne : l ≠ c) : Sq2 b h' l xs := let ⟨o, e, r⟩ := x; ⟨o, hs l o ne e, r⟩
section
variable {prog : Program} {w : World} {A : Around} {E : Value → Shared → Prop} {s : Shared}
theorem next2 {bb : Bool} {it l : Addr} {i : Nat} {items : Array Value} {x : Value} {Q : Value → Shared → Prop} (hit : It2 bb s.heap it l i) (hl : Sq2 bb s.heap l items) (hx : items[i]? = some x)
    (q : ∀ h', It2 bb h' it l (i + 1) → Heap.SameBut it s.heap h' → Q x { s with heap := h' }) : wpAny (model prog w) A (Builtin.SmallTypes.nextOf (.ref it)) Q E s := by
  cases bb
  · exact wpAny_nextOf_list_item hit hl hx q
  · exact wpAny_nextOf_tuple_item hit hl hx q
theorem end2 {bb : Bool} {it l : Addr} {i : Nat} {items : Array Value} {Q : Value → Shared → Prop} (hh : A.handled = none) (hit : It2 bb s.heap it l i) (hl : Sq2 bb s.heap l items) (hx : items[i]? = none)
    (q : ∀ h' e, Heap.ExtBut it s.heap h' → (∃ o, h'.get? e = some o ∧ o.cls = .type "StopIteration") → E (.ref e) { s with heap := h' }) : wpAny (model prog w) A (Builtin.SmallTypes.nextOf (.ref it)) Q E s := by
  cases bb
  · exact wpAny_nextOf_list_end hh hit hl hx q
  · exact wpAny_nextOf_tuple_end hh hit hl hx q
theorem zipX_item {bb : Bool} {z TI TO i1 i2 l1 l2 : Addr} {f0 f1 : Value} {k1 k2 : Nat} {xs ys : Array Value} {x y a b : Value} {Q : Value → Shared → Prop} (D : ZipApart z TI TO i1 i2 l1 l2)
    (hz : ZipO s.heap z TI TO f0 f1) (fr : ∀ {R : Bool → Shared → Prop}, R true s → wpAny (model prog w) A (Builtin.SmallTypes.ownedTupleIsFree (.ref z)) R E s) (hTI : IsPair s.heap TI (.ref i1) (.ref i2)) (hTO : IsPair s.heap TO a b)
    (h1 : s.heap.IsListIter i1 l1 k1) (h2 : It2 bb s.heap i2 l2 k2) (hl1 : s.heap.IsList l1 xs) (hl2 : Sq2 bb s.heap l2 ys) (hx : xs[k1]? = some x) (hy : ys[k2]? = some y)
    (q : ∀ h', ZipO h' z TI TO (rawInt s.heap.objs.size) (.bool false) → IsPair h' TO x y → h'.IsListIter i1 l1 (k1 + 1) → It2 bb h' i2 l2 (k2 + 1) → IsPair h' s.heap.objs.size x y → h'.objs.size = s.heap.objs.size + 1 →
      (∀ c o, c ≠ z → c ≠ TO → c ≠ i1 → c ≠ i2 → s.heap.get? c = some o → h'.get? c = some o) → Q (.ref s.heap.objs.size) { s with heap := h' }) :
    wpAny (model prog w) A (Builtin.«zip.__next__» ⟨[.ref z], []⟩) (fun fin s' => ∃ v, fin = .done (.ret v) ∧ Q v s') E s := by
  show wpAny _ _ (field (.ref z) 2 >>= _) _ _ _
  refine wpAny_bind (wpAny_field hz rfl (x := .bool false) rfl ?_)
  show wpAny _ _ (field (.ref z) 3 >>= _) _ _ _
  refine wpAny_bind (wpAny_field hz rfl (x := .ref TI) rfl (wpAny_bind (wpAny_seqItems hTI rfl ?_)))
  show wpAny _ _ (Builtin.SmallTypes.ownedTupleIsFree (.ref z) >>= _) _ _ _
  refine wpAny_bind (fr ?_)
  simp only [if_true]
  refine wpAny_bind (wpAny_rule (wpAny_bind (wpAny_field hz rfl (x := .ref TO) rfl ?_)))
  refine wpAny_bind (wpAny_setField_rec hz (by simp) fun g1 z1 b1 => ?_)
  replace z1 : ZipO g1 z TI TO .ellipsis f1 := z1
  refine wpAny_bind ?_
  simp only [List.zipIdx_cons, List.zipIdx_nil, List.forIn_cons, List.forIn_nil]
  refine wpAny_bind (wpAny_bind (wpAny_onRaise ?_))
  show wpAny _ _ (Builtin.SmallTypes.nextOf (.ref i1) >>= _) _ _ _
  refine wpAny_bind (wpAny_nextOf_list_item (h1.extBut b1.extBut D.i1z) (hl1.extBut b1.extBut D.l1z) hx fun g2 j2 b2 => wpAny_pure ?_)
  have o2 : IsPair g2 TO a b := b2.extBut _ _ D.TOi1 (b1.extBut _ _ D.TOz hTO)
  refine wpAny_bind (wpAny_seqItems o2 rfl (wpAny_bind (wpAny_updateSeq_pair o2 fun g3 o3 b3 => ?_)))
  replace o3 : IsPair g3 TO x b := o3
  refine wpAny_bind (wpAny_letGo (wpAny_pure (wpAny_bind (wpAny_bind (wpAny_onRaise ?_)))))
  show wpAny _ _ (Builtin.SmallTypes.nextOf (.ref i2) >>= _) _ _ _
  refine wpAny_bind (next2 (((h2.extBut b1.extBut D.i2z).extBut b2.extBut D.i12.symm).extBut b3.extBut D.TOi2.symm) (((hl2.extBut b1.extBut D.l2z).extBut b2.extBut D.l2i1).extBut b3.extBut D.l2TO) hy fun g4 j4 b4 => wpAny_pure ?_)
  have o4 : IsPair g4 TO x b := b4.extBut _ _ D.TOi2 o3
  refine wpAny_bind (wpAny_seqItems o4 rfl (wpAny_bind (wpAny_updateSeq_pair o4 fun g5 o5 b5 => ?_)))
  replace o5 : IsPair g5 TO x y := o5
  refine wpAny_bind (wpAny_letGo (wpAny_pure (wpAny_pure (wpAny_bind (wpAny_seqItems o5 rfl (wpAny_bind (wpAny_newTuple ?_)))))))
  have sz : g5.objs.size = s.heap.objs.size := by rw [b5.1, b4.1, b3.1, b2.1, b1.1]
  have z5 : ZipO g5 z TI TO .ellipsis f1 := b5.extBut _ _ D.TOz.symm (b4.extBut _ _ D.i2z.symm (b3.extBut _ _ D.TOz.symm (b2.extBut _ _ D.i1z.symm z1)))
  have k5 : ∀ c o, c ≠ z → c ≠ TO → c ≠ i1 → c ≠ i2 → s.heap.get? c = some o → g5.get? c = some o := fun c o n1 n2 n3 n4 e => b5.extBut _ _ n2 (b4.extBut _ _ n4 (b3.extBut _ _ n2 (b2.extBut _ _ n3 (b1.extBut _ _ n1 e))))
  have j15 : g5.IsListIter i1 l1 (k1 + 1) := ((j2.extBut b3.extBut D.TOi1.symm).extBut b4.extBut D.i12).extBut b5.extBut D.TOi1.symm
  have j25 : It2 bb g5 i2 l2 (k2 + 1) := j4.extBut b5.extBut D.TOi2.symm
  have lz : z < g5.objs.size := Heap.lt_size z5
  show wpAny _ _ (Builtin.SmallTypes.ownedTupleHandOut (.ref z) (.ref g5.objs.size) >>= _) _ _ _
  refine wpAny_bind ?_
  unfold Builtin.SmallTypes.ownedTupleHandOut
  have z6 : ZipO (g5.push { cls := .type "tuple", data := .seq #[x, y] }) z TI TO .ellipsis f1 := Heap.get?_push_of_some _ z5
  refine wpAny_bind (wpAny_setField_rec z6 (by simp) fun g7 z7 b7 => ?_)
  replace z7 : ZipO g7 z TI TO (rawInt g5.objs.size) f1 := z7
  refine wpAny_setField_rec z7 (by simp) fun g8 z8 b8 => ?_
  replace z8 : ZipO g8 z TI TO (rawInt g5.objs.size) (.bool false) := z8
  have up : ∀ c o, c ≠ z → g5.get? c = some o → g8.get? c = some o := fun c o n e => b8.extBut _ _ n (b7.extBut _ _ n (Heap.get?_push_of_some _ e))
  have t8 : IsPair g8 g5.objs.size x y := b8.extBut _ _ (Nat.ne_of_gt lz) (b7.extBut _ _ (Nat.ne_of_gt lz) (Heap.get?_push_size _ rfl))
  have sz8 : g8.objs.size = g5.objs.size + 1 := by rw [b8.1, b7.1, Heap.size_push]
  rw [sz] at z8 t8 sz8
  refine wpAny_pure ⟨_, rfl, ?_⟩
  show Q (.ref g5.objs.size) _
  rw [sz]
  exact q g8 z8 (up _ _ D.TOz o5) (j15.at fun o e => up _ o D.i1z e) (j25.at fun o e => up _ o D.i2z e) t8 sz8 fun c o n1 n2 n3 n4 e => up c o n1 (k5 c o n1 n2 n3 n4 e)
theorem zipX_end {bb : Bool} {z TI TO i1 i2 l1 l2 : Addr} {f0 f1 : Value} {k1 k2 : Nat} {xs ys : Array Value} {a b : Value} {Q : Fin → Shared → Prop} (hh : A.handled = none) (D : ZipApart z TI TO i1 i2 l1 l2)
    (hz : ZipO s.heap z TI TO f0 f1) (fr : ∀ {R : Bool → Shared → Prop}, R true s → wpAny (model prog w) A (Builtin.SmallTypes.ownedTupleIsFree (.ref z)) R E s) (hTI : IsPair s.heap TI (.ref i1) (.ref i2)) (hTO : IsPair s.heap TO a b)
    (h1 : s.heap.IsListIter i1 l1 k1) (h2 : It2 bb s.heap i2 l2 k2) (hl1 : s.heap.IsList l1 xs) (hl2 : Sq2 bb s.heap l2 ys) (he : xs[k1]? = none ∨ ys[k2]? = none)
    (q : ∀ h' e, (∀ c o, c ≠ z → c ≠ TO → c ≠ i1 → c ≠ i2 → s.heap.get? c = some o → h'.get? c = some o) → (∃ o, h'.get? e = some o ∧ o.cls = .type "StopIteration") → E (.ref e) { s with heap := h' }) :
    wpAny (model prog w) A (Builtin.«zip.__next__» ⟨[.ref z], []⟩) Q E s := by
  show wpAny _ _ (field (.ref z) 2 >>= _) _ _ _
  refine wpAny_bind (wpAny_field hz rfl (x := .bool false) rfl ?_)
  show wpAny _ _ (field (.ref z) 3 >>= _) _ _ _
  refine wpAny_bind (wpAny_field hz rfl (x := .ref TI) rfl (wpAny_bind (wpAny_seqItems hTI rfl ?_)))
  show wpAny _ _ (Builtin.SmallTypes.ownedTupleIsFree (.ref z) >>= _) _ _ _
  refine wpAny_bind (fr ?_)
  simp only [if_true]
  refine wpAny_bind (wpAny_rule (wpAny_bind (wpAny_field hz rfl (x := .ref TO) rfl ?_)))
  refine wpAny_bind (wpAny_setField_rec hz (by simp) fun g1 z1 b1 => ?_)
  replace z1 : ZipO g1 z TI TO .ellipsis f1 := z1
  refine wpAny_bind ?_
  simp only [List.zipIdx_cons, List.zipIdx_nil, List.forIn_cons, List.forIn_nil]
  refine wpAny_bind (wpAny_bind (wpAny_onRaise ?_))
  show wpAny _ _ (Builtin.SmallTypes.nextOf (.ref i1) >>= _) _ _ _
  cases hx : xs[k1]? with
  | none =>
    refine wpAny_bind (wpAny_nextOf_list_end hh (h1.extBut b1.extBut D.i1z) (hl1.extBut b1.extBut D.l1z) hx fun g2 e b2 se => ?_)
    obtain ⟨oe, eo, ce⟩ := se
    have z2 : ZipO g2 z TI TO .ellipsis f1 := b2 _ _ D.i1z.symm z1
    have ez : e ≠ z := fun x => by subst x; rw [z2] at eo; cases eo; simp at ce
    exact wpAny_setField_rec z2 (by simp) fun g3 _ b3 => q g3 e (fun c o n1 _ n3 _ x => b3.extBut _ _ n1 (b2 _ _ n3 (b1.extBut _ _ n1 x))) ⟨oe, b3.extBut _ _ ez eo, ce⟩
  | some x =>
    have hy : ys[k2]? = none := by
      rcases he with h | h
      · rw [hx] at h; cases h
      · exact h
    refine wpAny_bind (wpAny_nextOf_list_item (h1.extBut b1.extBut D.i1z) (hl1.extBut b1.extBut D.l1z) hx fun g2 j2 b2 => wpAny_pure ?_)
    have o2 : IsPair g2 TO a b := b2.extBut _ _ D.TOi1 (b1.extBut _ _ D.TOz hTO)
    refine wpAny_bind (wpAny_seqItems o2 rfl (wpAny_bind (wpAny_updateSeq_pair o2 fun g3 o3 b3 => ?_)))
    refine wpAny_bind (wpAny_letGo (wpAny_pure (wpAny_bind (wpAny_bind (wpAny_onRaise ?_)))))
    show wpAny _ _ (Builtin.SmallTypes.nextOf (.ref i2) >>= _) _ _ _
    refine wpAny_bind (end2 hh (((h2.extBut b1.extBut D.i2z).extBut b2.extBut D.i12.symm).extBut b3.extBut D.TOi2.symm) (((hl2.extBut b1.extBut D.l2z).extBut b2.extBut D.l2i1).extBut b3.extBut D.l2TO) hy fun g4 e b4 se => ?_)
    obtain ⟨oe, eo, ce⟩ := se
    have z4 : ZipO g4 z TI TO .ellipsis f1 := b4 _ _ D.i2z.symm (b3.extBut _ _ D.TOz.symm (b2.extBut _ _ D.i1z.symm z1))
    have ez : e ≠ z := fun x => by subst x; rw [z4] at eo; cases eo; simp at ce
    exact wpAny_setField_rec z4 (by simp) fun g5 _ b5 => q g5 e (fun c o n1 n2 n3 n4 x => b5.extBut _ _ n1 (b4 _ _ n4 (b3.extBut _ _ n2 (b2.extBut _ _ n3 (b1.extBut _ _ n1 x))))) ⟨oe, b5.extBut _ _ ez eo, ce⟩
theorem zipX_held {bb : Bool} {z TI TO T i1 i2 l1 l2 : Addr} {f : Bool} {oT : Obj} {k1 k2 : Nat} {xs ys : Array Value} {x y : Value} {Q : Value → Shared → Prop} (D : ZipApart z TI TO i1 i2 l1 l2)
    (hz : IsZipHeld s.heap z TI TO T f) (hT : s.heap.get? T = some oT) (hTI : IsPair s.heap TI (.ref i1) (.ref i2))
    (h1 : s.heap.IsListIter i1 l1 k1) (h2 : It2 bb s.heap i2 l2 k2) (hl1 : s.heap.IsList l1 xs) (hl2 : Sq2 bb s.heap l2 ys) (hx : xs[k1]? = some x) (hy : ys[k2]? = some y)
    (q : ∀ h', IsZipHeld h' z TI TO T true → h'.IsListIter i1 l1 (k1 + 1) → It2 bb h' i2 l2 (k2 + 1) → IsPair h' s.heap.objs.size x y → h'.objs.size = s.heap.objs.size + 1 →
      (∀ c o, c ≠ z → c ≠ i1 → c ≠ i2 → s.heap.get? c = some o → h'.get? c = some o) → Q (.ref s.heap.objs.size) { s with heap := h' }) :
    wpAny (model prog w) A (Builtin.«zip.__next__» ⟨[.ref z], []⟩) (fun fin s' => ∃ v, fin = .done (.ret v) ∧ Q v s') E s := by
  show wpAny _ _ (field (.ref z) 2 >>= _) _ _ _
  refine wpAny_bind (wpAny_field hz rfl (x := .bool false) rfl ?_)
  show wpAny _ _ (field (.ref z) 3 >>= _) _ _ _
  refine wpAny_bind (wpAny_field hz rfl (x := .ref TI) rfl (wpAny_bind (wpAny_seqItems hTI rfl ?_)))
  show wpAny _ _ (Builtin.SmallTypes.ownedTupleIsFree (.ref z) >>= _) _ _ _
  refine wpAny_bind (wpAny_tupleHeld_zip hz hT fun g1 z1 b1 => ?_)
  simp only [Bool.false_eq_true, if_false]
  refine wpAny_bind ?_
  rw [← Array.forIn_toList]
  simp only [List.forIn_cons, List.forIn_nil]
  refine wpAny_bind (wpAny_bind (wpAny_holding (show wpAny _ _ (Builtin.SmallTypes.nextOf (.ref i1) >>= _) _ _ _ from ?_)))
  refine wpAny_bind (wpAny_nextOf_list_item (s := { s with heap := g1 }) (h1.extBut b1.extBut D.i1z) (hl1.extBut b1.extBut D.l1z) hx fun g2 j2 b2 => wpAny_pure (wpAny_pure (wpAny_bind (wpAny_bind (wpAny_holding ?_)))))
  show wpAny _ _ (Builtin.SmallTypes.nextOf (.ref i2) >>= _) _ _ _
  refine wpAny_bind (next2 (s := { s with heap := g2 }) ((h2.extBut b1.extBut D.i2z).extBut b2.extBut D.i12.symm) ((hl2.extBut b1.extBut D.l2z).extBut b2.extBut D.l2i1) hy fun g3 j3 b3 => wpAny_pure (wpAny_pure (wpAny_pure ?_)))
  refine (show wpAny _ _ (newTuple [x, y] >>= _) _ _ _ from wpAny_bind (wpAny_newTuple (wpAny_pure ⟨_, rfl, ?_⟩)))
  have n3 : g3.objs.size = s.heap.objs.size := by rw [b3.1, b2.1, b1.1]
  have z3 : IsZipHeld g3 z TI TO T true := b3.extBut _ _ D.i2z.symm (b2.extBut _ _ D.i1z.symm z1)
  have up : ∀ c o, g3.get? c = some o → (g3.push { cls := .type "tuple", data := .seq #[x, y] }).get? c = some o := fun c o e => Heap.get?_push_of_some _ e
  have t4 : IsPair (g3.push { cls := .type "tuple", data := .seq #[x, y] }) g3.objs.size x y := Heap.get?_push_size _ rfl
  have n4 : (g3.push { cls := .type "tuple", data := .seq #[x, y] }).objs.size = g3.objs.size + 1 := Heap.size_push ..
  show Q (.ref g3.objs.size) _
  rw [n3] at t4 n4 ⊢
  exact q _ (up _ _ z3) ((j2.extBut b3.extBut D.i12).at fun o e => up _ o e) (j3.at fun o e => up _ o e) t4 n4 fun c o c1 c2 c3 e => up _ _ (b3.extBut _ _ c3 (b2.extBut _ _ c2 (b1.extBut _ _ c1 e)))
theorem zipX_end_held {bb : Bool} {z TI TO T i1 i2 l1 l2 : Addr} {f : Bool} {oT : Obj} {k1 k2 : Nat} {xs ys : Array Value} {Q : Fin → Shared → Prop} (hh : A.handled = none) (D : ZipApart z TI TO i1 i2 l1 l2)
    (hz : IsZipHeld s.heap z TI TO T f) (hT : s.heap.get? T = some oT) (hTI : IsPair s.heap TI (.ref i1) (.ref i2))
    (h1 : s.heap.IsListIter i1 l1 k1) (h2 : It2 bb s.heap i2 l2 k2) (hl1 : s.heap.IsList l1 xs) (hl2 : Sq2 bb s.heap l2 ys) (he : xs[k1]? = none ∨ ys[k2]? = none)
    (q : ∀ h' e, (∀ c o, c ≠ z → c ≠ i1 → c ≠ i2 → s.heap.get? c = some o → h'.get? c = some o) → (∃ o, h'.get? e = some o ∧ o.cls = .type "StopIteration") → E (.ref e) { s with heap := h' }) :
    wpAny (model prog w) A (Builtin.«zip.__next__» ⟨[.ref z], []⟩) Q E s := by
  show wpAny _ _ (field (.ref z) 2 >>= _) _ _ _
  refine wpAny_bind (wpAny_field hz rfl (x := .bool false) rfl ?_)
  show wpAny _ _ (field (.ref z) 3 >>= _) _ _ _
  refine wpAny_bind (wpAny_field hz rfl (x := .ref TI) rfl (wpAny_bind (wpAny_seqItems hTI rfl ?_)))
  show wpAny _ _ (Builtin.SmallTypes.ownedTupleIsFree (.ref z) >>= _) _ _ _
  refine wpAny_bind (wpAny_tupleHeld_zip hz hT fun g1 z1 b1 => ?_)
  simp only [Bool.false_eq_true, if_false]
  refine wpAny_bind ?_
  rw [← Array.forIn_toList]
  simp only [List.forIn_cons, List.forIn_nil]
  refine wpAny_bind (wpAny_bind (wpAny_holding (show wpAny _ _ (Builtin.SmallTypes.nextOf (.ref i1) >>= _) _ _ _ from ?_)))
  cases hx : xs[k1]? with
  | none => exact wpAny_bind (wpAny_nextOf_list_end (s := { s with heap := g1 }) hh (h1.extBut b1.extBut D.i1z) (hl1.extBut b1.extBut D.l1z) hx fun g2 e b2 se => q g2 e (fun c o c1 c2 _ x => b2 _ _ c2 (b1.extBut _ _ c1 x)) se)
  | some x =>
    have hy : ys[k2]? = none := he.resolve_left fun h => by rw [hx] at h; cases h
    refine wpAny_bind (wpAny_nextOf_list_item (s := { s with heap := g1 }) (h1.extBut b1.extBut D.i1z) (hl1.extBut b1.extBut D.l1z) hx fun g2 j2 b2 => wpAny_pure (wpAny_pure (wpAny_bind (wpAny_bind (wpAny_holding ?_)))))
    show wpAny _ _ (Builtin.SmallTypes.nextOf (.ref i2) >>= _) _ _ _
    exact wpAny_bind (end2 (s := { s with heap := g2 }) hh ((h2.extBut b1.extBut D.i2z).extBut b2.extBut D.i12.symm) ((hl2.extBut b1.extBut D.l2z).extBut b2.extBut D.l2i1) hy fun g3 e b3 se => q g3 e (fun c o c1 c2 c3 x => b3 _ _ c3 (b2.extBut _ _ c2 (b1.extBut _ _ c1 x))) se)
theorem nextOfX_held {bb : Bool} {z TI TO T i1 i2 l1 l2 : Addr} {f : Bool} {oT : Obj} {k1 k2 : Nat} {xs ys : Array Value} {x y : Value} {Q : Value → Shared → Prop} (D : ZipApart z TI TO i1 i2 l1 l2)
    (hz : IsZipHeld s.heap z TI TO T f) (hT : s.heap.get? T = some oT) (hTI : IsPair s.heap TI (.ref i1) (.ref i2))
    (h1 : s.heap.IsListIter i1 l1 k1) (h2 : It2 bb s.heap i2 l2 k2) (hl1 : s.heap.IsList l1 xs) (hl2 : Sq2 bb s.heap l2 ys) (hx : xs[k1]? = some x) (hy : ys[k2]? = some y)
    (q : ∀ h', IsZipHeld h' z TI TO T true → h'.IsListIter i1 l1 (k1 + 1) → It2 bb h' i2 l2 (k2 + 1) → IsPair h' s.heap.objs.size x y → h'.objs.size = s.heap.objs.size + 1 →
      (∀ c o, c ≠ z → c ≠ i1 → c ≠ i2 → s.heap.get? c = some o → h'.get? c = some o) → Q (.ref s.heap.objs.size) { s with heap := h' }) :
    wpAny (model prog w) A (Builtin.SmallTypes.nextOf (.ref z)) Q E s := by
  have ty : s.TypeIs (.ref z) "zip" := ⟨_, hz, rfl⟩
  unfold Builtin.SmallTypes.nextOf
  exact wpAny_bind (wpAny_callSpecial?_slot (name := Str.ofString "__next__") ty F.slot_zip_next (wpAny_call_entry F.slot_zip_next ty F.entry_zip_next (zipX_held D hz hT hTI h1 h2 hl1 hl2 hx hy fun h' a1 a3 a4 a5 a6 a7 => wpAny_pure (q h' a1 a3 a4 a5 a6 a7)) (F.args_zip_next_1 _)))
theorem nextX_end_held {bb : Bool} {z TI TO T i1 i2 l1 l2 : Addr} {f : Bool} {oT : Obj} {k1 k2 : Nat} {xs ys : Array Value} {Q : Option Value → Shared → Prop} (hh : A.handled = none) (D : ZipApart z TI TO i1 i2 l1 l2)
    (hz : IsZipHeld s.heap z TI TO T f) (hT : s.heap.get? T = some oT) (hTI : IsPair s.heap TI (.ref i1) (.ref i2))
    (h1 : s.heap.IsListIter i1 l1 k1) (h2 : It2 bb s.heap i2 l2 k2) (hl1 : s.heap.IsList l1 xs) (hl2 : Sq2 bb s.heap l2 ys) (he : xs[k1]? = none ∨ ys[k2]? = none)
    (q : ∀ h', (∀ c o, c ≠ z → c ≠ i1 → c ≠ i2 → s.heap.get? c = some o → h'.get? c = some o) → Q none { s with heap := h' }) : wpAny (model prog w) A (pyNext (.ref z)) Q E s := by
  have ty : s.TypeIs (.ref z) "zip" := ⟨_, hz, rfl⟩
  unfold pyNext
  refine wpAny_bind (wpAny_attempt (wpAny_callSpecial?_slot (name := Str.ofString "__next__") ty F.slot_zip_next (wpAny_call_entry F.slot_zip_next ty F.entry_zip_next (zipX_end_held hh D hz hT hTI h1 h2 hl1 hl2 he fun h' e k se => ?_) (F.args_zip_next_1 _))))
  obtain ⟨o, eo, co⟩ := se
  exact wpAny_bind (wpAny_isInstance (T := "StopIteration") (b := true) ⟨o, eo, co⟩ isSubtype_stop (wpAny_pure (q _ k)))
theorem nextX_end {bb : Bool} {z TI TO i1 i2 l1 l2 : Addr} {k1 k2 : Nat} {xs ys : Array Value} {a b : Value} {Q : Option Value → Shared → Prop} (hh : A.handled = none) (D : ZipApart z TI TO i1 i2 l1 l2)
    (hz : ZipSt s.heap z TI TO) (hTI : IsPair s.heap TI (.ref i1) (.ref i2)) (hTO : IsPair s.heap TO a b)
    (h1 : s.heap.IsListIter i1 l1 k1) (h2 : It2 bb s.heap i2 l2 k2) (hl1 : s.heap.IsList l1 xs) (hl2 : Sq2 bb s.heap l2 ys) (he : xs[k1]? = none ∨ ys[k2]? = none)
    (q : ∀ h', (∀ c o, c ≠ z → c ≠ TO → c ≠ i1 → c ≠ i2 → s.heap.get? c = some o → h'.get? c = some o) → Q none { s with heap := h' }) :
    wpAny (model prog w) A (pyNext (.ref z)) Q E s := by
  obtain ⟨oz, vz, ez, cz, dz⟩ := hz.obj
  have ty : s.TypeIs (.ref z) "zip" := ⟨_, ez, cz⟩
  have go : ∀ {f0 f1 : Value}, ZipO s.heap z TI TO f0 f1 → (∀ {E : Value → Shared → Prop} {A : Around} {R : Bool → Shared → Prop}, R true s → wpAny (model prog w) A (Builtin.SmallTypes.ownedTupleIsFree (.ref z)) R E s) → wpAny (model prog w) A (pyNext (.ref z)) Q E s := fun {f0 f1} hz fr => by
    unfold pyNext
    refine wpAny_bind (wpAny_attempt (wpAny_callSpecial?_slot (name := Str.ofString "__next__") ty F.slot_zip_next (wpAny_call_entry F.slot_zip_next ty F.entry_zip_next (zipX_end hh D hz fr hTI hTO h1 h2 hl1 hl2 he fun h' e k se => ?_) (F.args_zip_next_1 _))))
    obtain ⟨o, eo, co⟩ := se
    exact wpAny_bind (wpAny_isInstance (T := "StopIteration") (b := true) ⟨o, eo, co⟩ isSubtype_stop (wpAny_pure (q _ k)))
  rcases hz with hz | ⟨T, f, hz⟩
  · exact go hz fun r => zfree_none hz r
  · cases eT : s.heap.get? T with
    | none => exact go hz fun r => zfree_gone hz eT r
    | some oT => exact nextX_end_held hh D hz eT hTI h1 h2 hl1 hl2 he fun h' k => q h' fun c o n1 _ n3 n4 e => k c o n1 n3 n4 e
theorem nextOfX {bb : Bool} {z TI TO i1 i2 l1 l2 : Addr} {k1 k2 : Nat} {xs ys : Array Value} {x y a b : Value} {Q : Value → Shared → Prop} (D : ZipApart z TI TO i1 i2 l1 l2)
    (hz : ZipSt s.heap z TI TO) (hTI : IsPair s.heap TI (.ref i1) (.ref i2)) (hTO : IsPair s.heap TO a b)
    (h1 : s.heap.IsListIter i1 l1 k1) (h2 : It2 bb s.heap i2 l2 k2) (hl1 : s.heap.IsList l1 xs) (hl2 : Sq2 bb s.heap l2 ys) (hx : xs[k1]? = some x) (hy : ys[k2]? = some y)
    (q : ∀ h', ZipSt h' z TI TO → (∃ a b, IsPair h' TO a b) → h'.IsListIter i1 l1 (k1 + 1) → It2 bb h' i2 l2 (k2 + 1) → IsPair h' s.heap.objs.size x y → h'.objs.size = s.heap.objs.size + 1 →
      (∀ c o, c ≠ z → c ≠ TO → c ≠ i1 → c ≠ i2 → s.heap.get? c = some o → h'.get? c = some o) → Q (.ref s.heap.objs.size) { s with heap := h' }) :
    wpAny (model prog w) A (Builtin.SmallTypes.nextOf (.ref z)) Q E s := by
  obtain ⟨oz, vz, ez, cz, dz⟩ := hz.obj
  have hTy : s.TypeIs (.ref z) "zip" := ⟨_, ez, cz⟩
  have go : ∀ {f0 f1 : Value}, ZipO s.heap z TI TO f0 f1 → (∀ {E : Value → Shared → Prop} {A : Around} {R : Bool → Shared → Prop}, R true s → wpAny (model prog w) A (Builtin.SmallTypes.ownedTupleIsFree (.ref z)) R E s) → wpAny (model prog w) A (Builtin.SmallTypes.nextOf (.ref z)) Q E s := fun {f0 f1} hz fr => by
    unfold Builtin.SmallTypes.nextOf
    exact wpAny_bind (wpAny_callSpecial?_slot (name := Str.ofString "__next__") hTy F.slot_zip_next (wpAny_call_entry F.slot_zip_next hTy F.entry_zip_next
      (zipX_item D hz fr hTI hTO h1 h2 hl1 hl2 hx hy fun h' a1 a2 a3 a4 a5 a6 a7 => wpAny_pure (q h' (.inr ⟨_, _, a1⟩) ⟨_, _, a2⟩ a3 a4 a5 a6 a7)) (F.args_zip_next_1 _)))
  rcases hz with hz | ⟨T, f, hz⟩
  · exact go hz fun r => zfree_none hz r
  · cases eT : s.heap.get? T with
    | none => exact go hz fun r => zfree_gone hz eT r
    | some oT =>
      refine nextOfX_held D hz eT hTI h1 h2 hl1 hl2 hx hy fun h' a1 a3 a4 a5 a6 a7 => q h' (.inr ⟨T, true, a1⟩) ⟨a, b, a7 _ _ D.TOz D.TOi1 D.TOi2 hTO⟩ a3 a4 a5 a6 fun c o n1 _ n3 n4 e => a7 c o n1 n3 n4 e
theorem nextOfX_end {bb : Bool} {z TI TO i1 i2 l1 l2 : Addr} {k1 k2 : Nat} {xs ys : Array Value} {a b : Value} {Q : Value → Shared → Prop} (hh : A.handled = none) (D : ZipApart z TI TO i1 i2 l1 l2)
    (hz : ZipSt s.heap z TI TO) (hTI : IsPair s.heap TI (.ref i1) (.ref i2)) (hTO : IsPair s.heap TO a b)
    (h1 : s.heap.IsListIter i1 l1 k1) (h2 : It2 bb s.heap i2 l2 k2) (hl1 : s.heap.IsList l1 xs) (hl2 : Sq2 bb s.heap l2 ys) (he : xs[k1]? = none ∨ ys[k2]? = none)
    (q : ∀ h' e, (∀ c o, c ≠ z → c ≠ TO → c ≠ i1 → c ≠ i2 → s.heap.get? c = some o → h'.get? c = some o) → (∃ o, h'.get? e = some o ∧ o.cls = .type "StopIteration") → E (.ref e) { s with heap := h' }) :
    wpAny (model prog w) A (Builtin.SmallTypes.nextOf (.ref z)) Q E s := by
  obtain ⟨oz, vz, ez, cz, dz⟩ := hz.obj
  have hTy : s.TypeIs (.ref z) "zip" := ⟨_, ez, cz⟩
  have go : ∀ {f0 f1 : Value}, ZipO s.heap z TI TO f0 f1 → (∀ {E : Value → Shared → Prop} {A : Around} {R : Bool → Shared → Prop}, R true s → wpAny (model prog w) A (Builtin.SmallTypes.ownedTupleIsFree (.ref z)) R E s) → wpAny (model prog w) A (Builtin.SmallTypes.nextOf (.ref z)) Q E s := fun {f0 f1} hz fr => by
    unfold Builtin.SmallTypes.nextOf
    exact wpAny_bind (wpAny_callSpecial?_slot (name := Str.ofString "__next__") hTy F.slot_zip_next (wpAny_call_entry F.slot_zip_next hTy F.entry_zip_next
      (zipX_end hh D hz fr hTI hTO h1 h2 hl1 hl2 he q) (F.args_zip_next_1 _)))
  rcases hz with hz | ⟨T, f, hz⟩
  · exact go hz fun r => zfree_none hz r
  · cases eT : s.heap.get? T with
    | none => exact go hz fun r => zfree_gone hz eT r
    | some oT =>
      unfold Builtin.SmallTypes.nextOf
      exact wpAny_bind (wpAny_callSpecial?_slot (name := Str.ofString "__next__") hTy F.slot_zip_next (wpAny_call_entry F.slot_zip_next hTy F.entry_zip_next
        (zipX_end_held hh D hz eT hTI h1 h2 hl1 hl2 he fun h' e k r => q h' e (fun c o n1 _ n3 n4 x => k c o n1 n3 n4 x) r) (F.args_zip_next_1 _)))
end
/-! making one: a list with a tuple -/
abbrev lt1 (h : Heap) (l1 : Addr) : Heap := h.push { cls := .type "list_iterator", data := .fields #[.ref l1, .int 0 0] }
abbrev lt2 (h : Heap) (l1 l2 : Addr) : Heap := (lt1 h l1).push { cls := .type "tuple_iterator", data := .fields #[.ref l2, .int 0 0] }
abbrev lt3 (h : Heap) (l1 l2 : Addr) : Heap := (lt2 h l1 l2).push { cls := .type "tuple", data := .seq #[.ref h.objs.size, .ref (lt1 h l1).objs.size] }
abbrev lt4 (h : Heap) (l1 l2 : Addr) : Heap := (lt3 h l1 l2).push { cls := .type "tuple", data := .seq #[.none, .none] }
abbrev lt5 (h : Heap) (l1 l2 : Addr) : Heap := (lt4 h l1 l2).push { cls := .type "zip", data := .fields #[.none, .bool false, .bool false, .ref (lt2 h l1 l2).objs.size, .ref (lt3 h l1 l2).objs.size] }
theorem makes_lt (l1 l2 : Addr) (xs ys : Array Value) : Meets (Builtin.«zip.__new__» ⟨[.type "zip", .ref l1, .ref l2], []⟩) (fun _ R s => s.heap.IsList l1 xs ∧ s.heap.IsTuple l2 ys ∧ R (.ok (.ret (.ref (lt4 s.heap l1 l2).objs.size))) { s with heap := lt5 s.heap l1 l2 }) :=
  .of_wp fun prog w A R s ⟨p1, p2, r⟩ => by
    obtain ⟨hp, g, d, tk, os⟩ := s
    have zs := sub_zip
    have m1 : Heap.IsList (Shared.heap ⟨hp, g, d, tk, os⟩) l1 xs := p1
    have m2 : Heap.IsTuple (Shared.heap ⟨lt1 hp l1, g, d, tk, os⟩) l2 ys := Heap.IsTuple.push p2 _
    wp_walk using wpAny_pyIter_list m1, wpAny_pyIter_tuple m2
    exact ⟨_, rfl, r⟩
section
variable {prog : Program} {w : World} {A : Around} {E : Value → Shared → Prop} {s : Shared}
theorem call_zipX {bb : Bool} {l1 l2 : Addr} {xs ys : Array Value} {Q : Value → Shared → Prop} (p1 : s.heap.IsList l1 xs) (p2 : Sq2 bb s.heap l2 ys)
    (q : ∀ h', IsZip h' (s.heap.objs.size + 4) (s.heap.objs.size + 2) (s.heap.objs.size + 3) .none → IsPair h' (s.heap.objs.size + 2) (.ref s.heap.objs.size) (.ref (s.heap.objs.size + 1)) → IsPair h' (s.heap.objs.size + 3) .none .none →
      h'.IsListIter s.heap.objs.size l1 0 → It2 bb h' (s.heap.objs.size + 1) l2 0 → h'.objs.size = s.heap.objs.size + 5 → (∀ c o, s.heap.get? c = some o → h'.get? c = some o) → Q (.ref (s.heap.objs.size + 4)) { s with heap := h' }) :
    wpAny (model prog w) A (call (.type "zip") [.ref l1, .ref l2]) Q E s := by
  cases bb
  · exact call_zip_2 p1 p2 q
  · have n1 : (lt1 s.heap l1).objs.size = s.heap.objs.size + 1 := Heap.size_push ..
    have n2 : (lt2 s.heap l1 l2).objs.size = s.heap.objs.size + 2 := by rw [Heap.size_push, n1]
    have n3 : (lt3 s.heap l1 l2).objs.size = s.heap.objs.size + 3 := by rw [Heap.size_push, n2]
    have n4 : (lt4 s.heap l1 l2).objs.size = s.heap.objs.size + 4 := by rw [Heap.size_push, n3]
    have n5 : (lt5 s.heap l1 l2).objs.size = s.heap.objs.size + 5 := by rw [Heap.size_push, n4]
    have up1 : ∀ {h : Heap} {c : Addr} {o p : Obj}, h.get? c = some o → (h.push p).get? c = some o := fun e => Heap.get?_push_of_some _ e
    have g5 : (lt5 s.heap l1 l2).get? (lt4 s.heap l1 l2).objs.size = some _ := Heap.get?_push_size _ rfl
    have g4 : (lt5 s.heap l1 l2).get? (lt3 s.heap l1 l2).objs.size = some _ := up1 (Heap.get?_push_size _ rfl)
    have g3 : (lt5 s.heap l1 l2).get? (lt2 s.heap l1 l2).objs.size = some _ := up1 (up1 (Heap.get?_push_size _ rfl))
    have g2 : (lt5 s.heap l1 l2).get? (lt1 s.heap l1).objs.size = some _ := up1 (up1 (up1 (Heap.get?_push_size _ rfl)))
    have g1 : (lt5 s.heap l1 l2).get? s.heap.objs.size = some _ := up1 (up1 (up1 (up1 (Heap.get?_push_size _ rfl))))
    refine callType_new F.called_zip (by decide) (F.typeCall_zip_2 _ _) (F.newCall_zip_2 _ _) (fun obj => F.args_object_init_3 obj _ _) F.entry_zip_new (makes_lt l1 l2 xs ys) ⟨p1, p2, ?_⟩
    show _ ∧ _
    rw [n2, n3, n4] at g5
    rw [n3] at g4
    rw [n1, n2] at g3
    rw [n1] at g2
    rw [n4]
    exact ⟨⟨_, g5, rfl⟩, q _ g5 g3 g4 ⟨_, g1, rfl, rfl⟩ ⟨_, g2, rfl, rfl⟩ n5 fun c o e => up1 (up1 (up1 (up1 (up1 e))))⟩
end
/-! the walk -/
/-- what the second source is in our own account -/
def TwoAt (K : PySem.W.Frag) (bb : Bool) (H : Hp) (b : Addr) (ys : List V) : Prop := bif bb then SqT K H b ys else SqL K H b ys
theorem Sq2.lt {bb : Bool} {h : Heap} {l : Addr} {xs : Array Value} (x : Sq2 bb h l xs) : l < h.objs.size := let ⟨_, e, _⟩ := x; Heap.lt_size e
end Lk
namespace L2
theorem Inv.sq2 {X : Cx} {pins : List (PySem.Addr × PySem.Obj)} {σ : St} {H : Hp} {s : PySem.Shared} (I : Inv X pins σ H s) {bb : Bool} {b : PySem.Addr} {ys : List V} (h : Lk.TwoAt X.K bb H b ys) : ∃ its, Vals ys its ∧ Lk.Sq2 bb s.heap b its.toArray := by
  cases bb
  · obtain ⟨its, rv, p, _⟩ := I.list h
    exact ⟨its, rv, p.isList⟩
  · obtain ⟨its, rv, p, _⟩ := I.tuple h
    exact ⟨its, rv, p⟩
theorem Inv.sq2_inj {X : Cx} {pins : List (PySem.Addr × PySem.Obj)} {σ : St} {H : Hp} {s : PySem.Shared} (I : Inv X pins σ H s) {bb : Bool} {b : PySem.Addr} {xs ys : List V} (h : Lk.TwoAt X.K bb H b xs) (h' : Lk.TwoAt X.K bb H b ys) : xs = ys := by
  cases bb
  · exact I.list_inj h h'
  · exact I.tuple_inj h h'
end L2
namespace Lk
open PySem PySem.Spec PyProof.Rows L2
def ItEzX (K : PySem.W.Frag) (bb : Bool) (a b : Addr) : It :=
  ⟨fun i H => ∃ (xs ys : List V) (x y : V), SqL K H a xs ∧ TwoAt K bb H b ys ∧ xs[i]? = some x ∧ ys[i]? = some y,
    fun i H v H' => ∃ T U x y, v = .ref T ∧ H U = none ∧ H T = none ∧ T ≠ U ∧ H' = upd (upd H U (.tup [x, y])) T (.tup [.int (i : Nat), .ref U]) ∧ (∀ xs, SqL K H a xs → xs[i]? = some x) ∧ ∀ ys, TwoAt K bb H b ys → ys[i]? = some y,
    fun i H => ∃ xs ys : List V, SqL K H a xs ∧ TwoAt K bb H b ys ∧ (xs.length ≤ i ∨ ys.length ≤ i)⟩
theorem turn_enumX {P : Program} {w : World} {K : PySem.W.Frag} {elts : List Expr} {kk : Nat} {tpos : Pos} {bb : Bool} {a b e z TI TO i1 i2 : Addr} (D : ZipApart z TI TO i1 i2 a b) (ne : e ∉ [z, TI, TO, i1, i2, a, b]) :
    Turn P w K (.Tuple elts kk tpos) (ItEzX K bb a b) [e, z, TI, TO, i1, i2] e (fun i h => (∃ old, IsEnum h e z ((i : Nat) : Int) old) ∧ ZipSt h z TI TO ∧ IsPair h TI (.ref i1) (.ref i2) ∧ (∃ x y, IsPair h TO x y) ∧ h.IsListIter i1 a i ∧ It2 bb h i2 b i) where
  mem := by simp
  obj := fun i h st c hc => by
    obtain ⟨⟨old, he⟩, hz, hTI, ⟨x, y, hTO⟩, ⟨o1, e1, _, d1⟩, ⟨o2, e2, _, d2⟩⟩ := st
    have e' : c = e ∨ c = z ∨ c = TI ∨ c = TO ∨ c = i1 ∨ c = i2 := by simpa using hc
    rcases e' with q | q | q | q | q | q
    · rw [q]; exact ⟨_, he, fun v q => nomatch q⟩
    · obtain ⟨oz, vz, ez, _, dz⟩ := hz.obj
      rw [q]; exact ⟨_, ez, fun v q => by rw [dz] at q; cases q⟩
    · rw [q]; exact ⟨_, hTI, fun v q => nomatch q⟩
    · rw [q]; exact ⟨_, hTO, fun v q => nomatch q⟩
    · rw [q]; exact ⟨o1, e1, fun v q => by rw [d1] at q; cases q⟩
    · rw [q]; exact ⟨o2, e2, fun v q => by rw [d2] at q; cases q⟩
  keep := fun i h h' st k => by
    obtain ⟨⟨old, he⟩, hz, hTI, ⟨x, y, hTO⟩, h1, h2⟩ := st
    exact ⟨⟨old, k e (by simp) _ he⟩, hz.at fun o q => k z (by simp) o q, k TI (by simp) _ hTI, ⟨x, y, k TO (by simp) _ hTO⟩, h1.at fun o q => k i1 (by simp) o q, h2.at fun o q => k i2 (by simp) o q⟩
  item := by
    intro X hP hw hK hc i pins s σ H E I hf st hg
    subst hP hw hK
    obtain ⟨⟨old, he⟩, hz, hTI, ⟨x0, y0, hTO⟩, h1, h2⟩ := st
    obtain ⟨xs, ys, x, y, hqx, hqy, hx, hy⟩ := hg
    obtain ⟨its, rv, p, _⟩ := I.list hqx
    obtain ⟨its2, rv2, p2⟩ := I.sq2 hqy
    obtain ⟨u, hu, ru⟩ := rv.get hx
    obtain ⟨u2, hu2, ru2⟩ := rv2.get hy
    have nez : e ≠ z := fun q => ne (by simp [q])
    have neTI : e ≠ TI := fun q => ne (by simp [q])
    have neTO : e ≠ TO := fun q => ne (by simp [q])
    have ne1 : e ≠ i1 := fun q => ne (by simp [q])
    have ne2 : e ≠ i2 := fun q => ne (by simp [q])
    have hel : e < s.heap.objs.size := Heap.lt_size he
    have low : ∀ c ∈ [e, z, TI, TO, i1, i2], c < s.heap.objs.size := fun c hc => by
      have e' : c = e ∨ c = z ∨ c = TI ∨ c = TO ∨ c = i1 ∨ c = i2 := by simpa using hc
      rcases e' with q | q | q | q | q | q
      · rw [q]; exact hel
      · obtain ⟨oz, vz, ez, _, _⟩ := hz.obj
        rw [q]; exact Heap.lt_size ez
      · rw [q]; exact Heap.lt_size hTI
      · rw [q]; exact Heap.lt_size hTO
      · rw [q]; obtain ⟨_, e1, _⟩ := h1; exact Heap.lt_size e1
      · rw [q]; obtain ⟨_, e2, _⟩ := h2; exact Heap.lt_size e2
    let R : Value → Heap → Nat → Prop := fun v g tk => v = .ref s.heap.objs.size ∧ tk = s.toks ∧ ZipSt g z TI TO ∧ (∃ a b, IsPair g TO a b) ∧ g.IsListIter i1 a (i + 1) ∧ It2 bb g i2 b (i + 1) ∧ IsPair g s.heap.objs.size u u2 ∧ g.objs.size = s.heap.objs.size + 1 ∧ ∀ c o, c ≠ z → c ≠ TO → c ≠ i1 → c ≠ i2 → s.heap.get? c = some o → g.get? c = some o
    refine enum_next (R := R) he (fun QQ EE r => ?_) (fun v g tk r => ?_) fun v g tk g2 r ho hT hsz hk => ?_
    · exact nextOfX D hz hTI hTO h1 h2 p.isList p2 (x := u) (y := u2) (by simpa using hu) (by simpa using hu2) fun h' a1 a2 a3 a4 a5 a6 a7 => r _ _ _ ⟨rfl, rfl, a1, a2, a3, a4, a5, a6, a7⟩
    · obtain ⟨_, _, _, _, _, _, _, g8, g9⟩ := r
      exact ⟨(g9 e _ nez neTO ne1 ne2 he).trans he.symm, by rw [g8]; exact Nat.le_succ _⟩
    obtain ⟨rfl, rfl, g3, ⟨a', b', g4⟩, g5, g6, g7, g8, g9⟩ := r
    rw [g8] at hT hsz ho ⊢
    refine ⟨_, rfl, wpAny_letOwnedTupleGo_enum (s := { s with heap := g2, toks := s.toks + 1 }) ho fun g3' he' sb => ?_⟩
    have n1 : s.heap.objs.size ≠ e := Nat.ne_of_gt hel
    have n2 : s.heap.objs.size + 1 ≠ e := Nat.ne_of_gt (Nat.lt_succ_of_lt hel)
    have up : ∀ c o, c ≠ e → g.get? c = some o → g3'.get? c = some o := fun c o nc q => (sb.2 c nc).trans (hk c o nc q)
    have tU : g3'.get? s.heap.objs.size = some { cls := .type "tuple", data := .seq #[u, u2] } := up _ _ n1 g7
    have tT : g3'.get? (s.heap.objs.size + 1) = some { cls := .type "tuple", data := .seq #[.int i s.toks, .ref s.heap.objs.size] } := (sb.2 _ n2).trans hT
    have hU : H s.heap.objs.size = none := I.hok.fresh (Nat.le_refl _)
    have hTn : H (s.heap.objs.size + 1) = none := I.hok.fresh (Nat.le_succ _)
    have newU : ObjOk X.prog X.w (upd H s.heap.objs.size (.tup [x, y])) g3' s.heap.objs.size (.tup [x, y]) := ⟨by show 2 ≤ sizeLine; decide, [u, u2], .cons ru (.cons ru2 .nil), ⟨_, tU, rfl, _, rfl⟩⟩
    have I1 : Inv X pins σ (upd H s.heap.objs.size (.tup [x, y])) { s with heap := g3', toks := s.toks + 1 } :=
      I.turnedNew (ch := [e, z, TI, TO, i1, i2]) (fun c o hb q => up c o (fun q' => hb (by simp [q'])) (g9 c o (fun q' => hb (by simp [q'])) (fun q' => hb (by simp [q'])) (fun q' => hb (by simp [q'])) (fun q' => hb (by simp [q'])) q)) hf (Nat.le_refl _) newU
    have nUT : s.heap.objs.size + 1 ≠ s.heap.objs.size := Nat.succ_ne_self _
    have n0 : X.s_0.heap.get? (s.heap.objs.size + 1) = none := by
      cases q : X.s_0.heap.get? (s.heap.objs.size + 1) with
      | none => rfl
      | some o => exact absurd (Nat.lt_of_lt_of_le (Heap.lt_size q) I.sz) (by omega)
    have nL : s.heap.objs.size + 1 ≠ X.env.locals := Nat.ne_of_gt (Nat.lt_succ_of_lt I.lt)
    have np : ∀ p ∈ X.pn ++ pins, p.1 ≠ s.heap.objs.size + 1 := fun p hp => Nat.ne_of_lt (Nat.lt_succ_of_lt (Heap.lt_size (I.pin p hp).1))
    have newT : ObjOk X.prog X.w (upd (upd H s.heap.objs.size (.tup [x, y])) (s.heap.objs.size + 1) (.tup [.int (i : Nat), .ref s.heap.objs.size])) g3' (s.heap.objs.size + 1) (.tup [.int (i : Nat), .ref s.heap.objs.size]) :=
      ⟨by show 2 ≤ sizeLine; decide, [.int i s.toks, .ref s.heap.objs.size], .cons ⟨_, rfl⟩ (.cons rfl .nil), ⟨_, tT, rfl, _, rfl⟩⟩
    have I2 := inv_laid2 I1 tT (fun v q => nomatch q) (by rw [upd_ne nUT]; exact hTn) n0 nL np newT
    refine ⟨.ref (s.heap.objs.size + 1), _, I2, rfl, ⟨_, s.heap.objs.size, x, y, rfl, hU, hTn, nUT, rfl, fun l hl => by rw [I.list_inj hl hqx]; exact hx, fun l hl => by rw [I.sq2_inj hl hqy]; exact hy⟩, ⟨⟨.ref s.heap.objs.size, ?_⟩, ?_, ?_, ⟨a', b', ?_⟩, ?_, ?_⟩, fun c hcm => ?_⟩
    · have e1 : ((i + 1 : Nat) : Int) = (i : Int) + 1 := by omega
      rw [e1]
      exact he'
    · exact g3.at fun o q => up _ o nez.symm q
    · exact up _ _ neTI.symm (g9 _ _ D.TIz D.TITO D.TIi1 D.TIi2 hTI)
    · exact up _ _ neTO.symm g4
    · exact g5.at fun o q => up _ o ne1.symm q
    · exact g6.at fun o q => up _ o ne2.symm q
    · have hlt := low c hcm
      rw [upd_ne (Nat.ne_of_lt (Nat.lt_succ_of_lt hlt)), upd_ne (Nat.ne_of_lt hlt)]
      exact (hf c hcm).1
  done := by
    intro X hP hw hK hc i pins s σ H E I hf st hg
    subst hP hw hK
    obtain ⟨⟨old, he⟩, hz, hTI, ⟨x0, y0, hTO⟩, h1, h2⟩ := st
    obtain ⟨xs, ys, hqx, hqy, hend⟩ := hg
    obtain ⟨its, rv, p, _⟩ := I.list hqx
    obtain ⟨its2, rv2, p2⟩ := I.sq2 hqy
    have l1 := rv.length
    have l2 := rv2.length
    have hn : its.toArray[i]? = none ∨ its2.toArray[i]? = none := by
      rcases hend with q | q
      · exact .inl (by simp; omega)
      · exact .inr (by simp; omega)
    refine enum_stop he fun QQ EE r => nextOfX_end (I.ok.hd hc) D hz hTI hTO h1 h2 p.isList p2 hn fun h' x k se => r h' x se ⟨rfl, ?_⟩
    exact I.turnedL (t' := s.toks) (ch := [e, z, TI, TO, i1, i2]) (fun c o hb q => k c o (fun q' => hb (by simp [q'])) (fun q' => hb (by simp [q'])) (fun q' => hb (by simp [q'])) (fun q' => hb (by simp [q'])) q) hf
  self := fun A i s Q E st h => let ⟨⟨_, he⟩, _⟩ := st; wpAny_pyIter_enum he h
def iEnumX (K : PySem.W.Frag) (ta : TA) : TI := fun σ H R => ta σ H fun vs H1 => ∃ (bb : Bool) (a b : Addr) (xs ys : List V), vs = [.ref a, .ref b] ∧ SqL K H1 a xs ∧ TwoAt K bb H1 b ys ∧ R (ItEzX K bb a b) H1
theorem pi_enumX {X : Cx} {e e2 : Expr} {ta : TA} {p zp zpos pos tpos : Pos} {elts : List Expr} {kk : Nat} (hg : Gl X "enumerate") (hm : X.mg "enumerate" = none) (hgz : Gl X "zip") (hmz : X.mg "zip" = none) (ha : PA X [e, e2] ta)
    (hs : starEach [e, e2] X.env = (false, eval e X.env) :: starEach [e2] X.env := by rfl) (hpl : (backTo zpos (starEach [e2] X.env)).any (·.1) = false := by rfl)
    (hs2 : starEach [.Call (.Name "zip" zp) [e, e2] [] zpos] X.env = [(false, eval (.Call (.Name "zip" zp) [e, e2] [] zpos) X.env)] := by rfl) :
    PI X (.Tuple elts kk tpos) (.Call (.Name "enumerate" p) [.Call (.Name "zip" zp) [e, e2] [] zpos] [] pos) (iEnumX X.K ta) := by
  refine ⟨fun pins s σ H R I h => ?_⟩
  refine Call_ (ld_blt I hg hm boot_enumerate (PyProof.Rows.callWith_type1 ?_ hs2 rfl))
  refine wpAny_items_cons ?_
  refine Call_ (ld_blt I hgz hmz PyProof.Rows.boot_zip (PyProof.Rows.callWith_type1 (thn (ha.run zpos pins s σ H _ I h) fun us s1 ⟨vs, H1, I1, r1, q1⟩ => ?_) hs hpl))
  obtain ⟨bb, a, b, xs, ys, ex, hqx, hqy, q⟩ := q1
  subst ex
  cases r1 with
  | cons r rr =>
    cases rr with
    | cons r' rr =>
      cases rr
      cases r
      cases r'
      obtain ⟨its, rv, p1, _⟩ := I1.list hqx
      obtain ⟨its2, rv2, p2⟩ := I1.sq2 hqy
      have la : a < s1.heap.objs.size := p1.lt
      have lb : b < s1.heap.objs.size := p2.lt
      refine call_zipX p1.isList p2 fun g hz hTI hTO h1 h2 hsz hk => ?_
      refine wpAny_items_nil ?_
      refine call_enum_zip (s := { s1 with heap := g }) hz fun g2 he hsz2 hk2 => wpAny_pyIter_enum (s := { s1 with heap := g2 }) he ?_
      have I2 : Inv X pins σ H1 { s1 with heap := g2 } := I1.kept (t' := s1.toks) fun c o q => hk2 c o (hk c o q)
      have D := PySem.W.ktu_apart s1.heap.objs.size a b la lb
      have sg : ({ s1 with heap := g } : Shared).heap.objs.size = s1.heap.objs.size + 5 := hsz
      have nin : ({ s1 with heap := g } : Shared).heap.objs.size ∉ [s1.heap.objs.size + 4, s1.heap.objs.size + 2, s1.heap.objs.size + 3, s1.heap.objs.size, s1.heap.objs.size + 1, a, b] := by
        rw [sg]
        have lt5 : ∀ {c : Nat}, c < s1.heap.objs.size + 5 → s1.heap.objs.size + 5 ≠ c := fun h => Nat.ne_of_gt h
        have nc : ∀ {x y : Nat} {l : List Nat}, x ≠ y → x ∉ l → x ∉ y :: l := fun h1 h2 h3 => (List.mem_cons.mp h3).elim h1 h2
        exact nc (lt5 (by omega)) (nc (lt5 (by omega)) (nc (lt5 (by omega)) (nc (lt5 (by omega)) (nc (lt5 (by omega)) (nc (lt5 (Nat.lt_of_lt_of_le la (Nat.le_add_right _ 5))) (nc (lt5 (Nat.lt_of_lt_of_le lb (Nat.le_add_right _ 5))) fun h => nomatch h))))))
      refine ⟨_, [({ s1 with heap := g } : Shared).heap.objs.size, s1.heap.objs.size + 4, s1.heap.objs.size + 2, s1.heap.objs.size + 3, s1.heap.objs.size, s1.heap.objs.size + 1], _, _, H1, rfl, I2, turn_enumX D nin, ⟨⟨_, he⟩, .inl (hk2 _ _ hz), hk2 _ _ hTI, ⟨_, _, hk2 _ _ hTO⟩, h1.at fun o q => hk2 _ o q, h2.at fun o q => hk2 _ o q⟩, fun c hcm => ?_, q⟩
      have hle : s1.heap.objs.size ≤ c := by
        have e' : c = ({ s1 with heap := g } : Shared).heap.objs.size ∨ c = s1.heap.objs.size + 4 ∨ c = s1.heap.objs.size + 2 ∨ c = s1.heap.objs.size + 3 ∨ c = s1.heap.objs.size ∨ c = s1.heap.objs.size + 1 := by simpa using hcm
        rcases e' with z | z | z | z | z | z
        · rw [z, sg]; omega
        all_goals (rw [z]; omega)
      exact I1.fpOk hle (I1.hok.fresh hle)
section
variable {prog : Program} {w : World} {A : Around} {E : Value → Shared → Prop} {s : Shared}
theorem nextX_first {bb : Bool} {z TI TO i1 i2 l1 l2 : Addr} {k1 k2 : Nat} {xs ys : Array Value} {x y a b : Value} {Q : Option Value → Shared → Prop} (D : ZipApart z TI TO i1 i2 l1 l2)
    (hz : IsZip s.heap z TI TO .none) (hTI : IsPair s.heap TI (.ref i1) (.ref i2)) (hTO : IsPair s.heap TO a b)
    (h1 : s.heap.IsListIter i1 l1 k1) (h2 : It2 bb s.heap i2 l2 k2) (hl1 : s.heap.IsList l1 xs) (hl2 : Sq2 bb s.heap l2 ys) (hx : xs[k1]? = some x) (hy : ys[k2]? = some y)
    (q : ∀ h', IsZip h' z TI TO (rawInt s.heap.objs.size) → (∃ a b, IsPair h' TO a b) → h'.IsListIter i1 l1 (k1 + 1) → It2 bb h' i2 l2 (k2 + 1) → IsPair h' s.heap.objs.size x y → h'.objs.size = s.heap.objs.size + 1 →
      (∀ c o, c ≠ z → c ≠ TO → c ≠ i1 → c ≠ i2 → s.heap.get? c = some o → h'.get? c = some o) → Q (some (.ref s.heap.objs.size)) { s with heap := h' }) :
    wpAny (model prog w) A (pyNext (.ref z)) Q E s := by
  have ty : s.TypeIs (.ref z) "zip" := ⟨_, hz, rfl⟩
  unfold pyNext
  exact wpAny_bind (wpAny_attempt (wpAny_callSpecial?_slot (name := Str.ofString "__next__") ty F.slot_zip_next (wpAny_call_entry F.slot_zip_next ty F.entry_zip_next
    (zipX_item D hz (fun r => zfree_none hz r) hTI hTO h1 h2 hl1 hl2 hx hy fun h' a1 a2 a3 a4 a5 a6 a7 => wpAny_pure (q h' a1 ⟨_, _, a2⟩ a3 a4 a5 a6 a7)) (F.args_zip_next_1 _))))
end
def ItX (K : PySem.W.Frag) (bb : Bool) (a b : Addr) : It :=
  ⟨fun i H => ∃ (xs ys : List V) (x y : V), SqL K H a xs ∧ TwoAt K bb H b ys ∧ xs[i]? = some x ∧ ys[i]? = some y,
    fun i H v H' => ∃ T x y, v = .ref T ∧ H T = none ∧ H' = upd H T (.tup [x, y]) ∧ (∀ xs, SqL K H a xs → xs[i]? = some x) ∧ ∀ ys, TwoAt K bb H b ys → ys[i]? = some y,
    fun i H => ∃ xs ys : List V, SqL K H a xs ∧ TwoAt K bb H b ys ∧ (xs.length ≤ i ∨ ys.length ≤ i)⟩
def iZipX (K : PySem.W.Frag) (ta : TA) : TI := fun σ H R => ta σ H fun vs H1 => ∃ (bb : Bool) (a b : Addr) (xs ys : List V), vs = [.ref a, .ref b] ∧ SqL K H1 a xs ∧ TwoAt K bb H1 b ys ∧ R (ItX K bb a b) H1
theorem walk_zipX {K : PySem.W.Frag} {bb : Bool} {a b : Addr} {xs ys : List V} {n : Nat} (hn : n = min xs.length ys.length) : Walk (ItX K bb a b) n (fun H => SqL K H a xs ∧ TwoAt K bb H b ys) (YPair (fun i => xs[i]?) (fun i => ys[i]?)) := by
  subst hn
  refine ⟨fun i _ hi q => ?_, fun _ q => ⟨xs, ys, q.1, q.2, by omega⟩, fun i H v H' _ q y => ?_⟩
  · have l1 : i < xs.length := by omega
    have l2 : i < ys.length := by omega
    exact ⟨xs, ys, xs[i], ys[i], q.1, q.2, by simp [l1], by simp [l2]⟩
  · obtain ⟨T, x, z, y1, y2, y3, y4, y5⟩ := y
    exact ⟨T, x, z, y1, y2, y3, y4 xs q.1, y5 ys q.2⟩
theorem walk_enumX {K : PySem.W.Frag} {bb : Bool} {a b : Addr} {xs ys : List V} {n : Nat} (hn : n = min xs.length ys.length) : Walk (ItEzX K bb a b) n (fun H => SqL K H a xs ∧ TwoAt K bb H b ys)
    (fun i H v H' => ∃ T U x y, v = .ref T ∧ H U = none ∧ H T = none ∧ T ≠ U ∧ H' = upd (upd H U (.tup [x, y])) T (.tup [.int (i : Nat), .ref U]) ∧ xs[i]? = some x ∧ ys[i]? = some y) := by
  subst hn
  refine ⟨fun i _ hi q => ?_, fun _ q => ⟨xs, ys, q.1, q.2, by omega⟩, fun i H v H' _ q y => ?_⟩
  · have l1 : i < xs.length := by omega
    have l2 : i < ys.length := by omega
    exact ⟨xs, ys, xs[i], ys[i], q.1, q.2, by simp [l1], by simp [l2]⟩
  · obtain ⟨T, U, x, z, y1, y2, y3, y4, y5, y6, y7⟩ := y
    exact ⟨T, U, x, z, y1, y2, y3, y4, y5, y6 xs q.1, y7 ys q.2⟩
theorem turn_zipX {P : Program} {w : World} {K : PySem.W.Frag} {elts : List Expr} {kk : Nat} {tpos : Pos} {bb : Bool} {a b z TI TO i1 i2 : Addr} (D : ZipApart z TI TO i1 i2 a b) :
    Turn P w K (.Tuple elts kk tpos) (ItX K bb a b) [z, TI, TO, i1, i2] z (fun i h => IsZip h z TI TO .none ∧ IsPair h TI (.ref i1) (.ref i2) ∧ (∃ x y, IsPair h TO x y) ∧ h.IsListIter i1 a i ∧ It2 bb h i2 b i) where
  mem := List.mem_cons_self
  obj := fun i h st c hc => by
    obtain ⟨hz, hTI, ⟨_, _, hTO⟩, ⟨o1, e1, _, d1⟩, ⟨o2, e2, _, d2⟩⟩ := st
    simp only [List.mem_cons, List.not_mem_nil, or_false] at hc
    rcases hc with rfl | rfl | rfl | rfl | rfl
    · exact ⟨_, hz, fun v q => nomatch q⟩
    · exact ⟨_, hTI, fun v q => nomatch q⟩
    · exact ⟨_, hTO, fun v q => nomatch q⟩
    · exact ⟨o1, e1, fun v q => by rw [d1] at q; cases q⟩
    · exact ⟨o2, e2, fun v q => by rw [d2] at q; cases q⟩
  keep := fun i h h' ⟨hz, hTI, ⟨u, v, hTO⟩, h1, h2⟩ k => ⟨k z (by simp) _ hz, k TI (by simp) _ hTI, ⟨u, v, k TO (by simp) _ hTO⟩, h1.at (k i1 (by simp)), h2.at (k i2 (by simp))⟩
  item := by
    intro X hP hw hK hc i pins s σ H E I hf st hg
    subst hP hw hK
    obtain ⟨hz, hTI, ⟨_, _, hTO⟩, h1, h2⟩ := st
    obtain ⟨xs, ys, u, v, qx, qy, ux, vy⟩ := hg
    obtain ⟨its, rv, p, _⟩ := I.list qx
    obtain ⟨its2, rv2, p2⟩ := I.sq2 qy
    obtain ⟨u1, eu, ru⟩ := rv.get ux
    obtain ⟨v1, ev, rv'⟩ := rv2.get vy
    have low : ∀ c ∈ [z, TI, TO, i1, i2], c < s.heap.objs.size := fun c hc => by
      simp only [List.mem_cons, List.not_mem_nil, or_false] at hc
      rcases hc with rfl | rfl | rfl | rfl | rfl
      · exact Heap.lt_size hz
      · exact Heap.lt_size hTI
      · exact Heap.lt_size hTO
      · obtain ⟨_, e, _⟩ := h1; exact Heap.lt_size e
      · obtain ⟨_, e, _⟩ := h2; exact Heap.lt_size e
    refine nextX_first D hz hTI hTO h1 h2 p.isList p2 (x := u1) (y := v1) (by simpa using eu) (by simpa using ev) fun h' z' t' n1 n2 hT _ kp => ?_
    refine ⟨_, rfl, wpAny_letOwnedTupleGo_zip (s := { s with heap := h' }) z' fun h2' z2 sb => ?_⟩
    have lz : z < s.heap.objs.size := low z (by simp)
    have up : ∀ c o, c ≠ z → h'.get? c = some o → h2'.get? c = some o := fun c o ne e => (sb.2 c ne).trans e
    have hT2 : h2'.get? s.heap.objs.size = some { cls := .type "tuple", data := .seq #[u1, v1] } := up _ _ (Nat.ne_of_gt lz) hT
    have new : ObjOk X.prog X.w (upd H s.heap.objs.size (.tup [u, v])) h2' s.heap.objs.size (.tup [u, v]) := ⟨by show 2 ≤ sizeLine; decide, [u1, v1], .cons ru (.cons rv' .nil), ⟨_, hT2, rfl, _, rfl⟩⟩
    have J : Inv X pins σ (upd H s.heap.objs.size (.tup [u, v])) { s with heap := h2' } :=
      I.turnedNew (t' := s.toks) (ch := [z, TI, TO, i1, i2]) (fun c o nc e => up c o (fun q => nc (by simp [q])) (kp c o (fun q => nc (by simp [q])) (fun q => nc (by simp [q])) (fun q => nc (by simp [q])) (fun q => nc (by simp [q])) e)) hf (Nat.le_refl _) new
    obtain ⟨p1', p2', hTO'⟩ := t'
    refine ⟨.ref s.heap.objs.size, _, J, rfl, ⟨_, u, v, rfl, I.hok.fresh (Nat.le_refl _), rfl, fun l hl => by rw [I.list_inj hl qx]; exact ux, fun l hl => by rw [I.sq2_inj hl qy]; exact vy⟩, ⟨z2, up _ _ D.TIz (kp _ _ D.TIz D.TITO D.TIi1 D.TIi2 hTI), ⟨p1', p2', up _ _ D.TOz hTO'⟩, n1.at fun o e => up _ o D.i1z e, n2.at fun o e => up _ o D.i2z e⟩, fun c mc => ?_⟩
    rw [upd_ne (Nat.ne_of_lt (low c mc))]
    exact (hf c mc).1
  done := by
    intro X hP hw hK hc i pins s σ H E I hf st hg
    subst hP hw hK
    obtain ⟨hz, hTI, ⟨_, _, hTO⟩, h1, h2⟩ := st
    obtain ⟨xs, ys, qx, qy, stop⟩ := hg
    obtain ⟨its, rv, p, _⟩ := I.list qx
    obtain ⟨its2, rv2, p2⟩ := I.sq2 qy
    have n1 := rv.length
    have n2 := rv2.length
    have off : its.toArray[i]? = none ∨ its2.toArray[i]? = none := stop.imp (fun q => by simp; omega) fun q => by simp; omega
    exact nextX_end (I.ok.hd hc) D (.inl hz) hTI hTO h1 h2 p.isList p2 off fun h' kp => ⟨rfl, I.turnedL (t' := s.toks) (ch := [z, TI, TO, i1, i2]) (fun c o nc e => kp c o (fun q => nc (by simp [q])) (fun q => nc (by simp [q])) (fun q => nc (by simp [q])) (fun q => nc (by simp [q])) e) hf⟩
  self := fun A i s Q E st h => wpAny_pyIter_zip st.1 h
theorem pi_zipX {X : Cx} {e e2 : Expr} {ta : TA} {elts : List Expr} {kk : Nat} {p pos tpos : Pos} (hg : Gl X "zip") (hm : X.mg "zip" = none) (ha : PA X [e, e2] ta)
    (hs : starEach [e, e2] X.env = (false, eval e X.env) :: starEach [e2] X.env := by rfl) (hpl : (backTo pos (starEach [e2] X.env)).any (·.1) = false := by rfl) :
    PI X (.Tuple elts kk tpos) (.Call (.Name "zip" p) [e, e2] [] pos) (iZipX X.K ta) := by
  refine ⟨fun pins s σ H R I h => Call_ (ld_blt I hg hm PyProof.Rows.boot_zip (PyProof.Rows.callWith_type1 (thn (ha.run pos pins s σ H _ I h) fun us s1 ⟨vs, H1, I1, r1, q1⟩ => ?_) hs hpl))⟩
  obtain ⟨bb, a, b, xs, ys, rfl, qx, qy, q⟩ := q1
  obtain ⟨v1, v2, rfl, e1, e2⟩ := vals2 r1
  cases e1
  cases e2
  obtain ⟨its, rv, p1, _⟩ := I1.list qx
  obtain ⟨its2, rv2, p2⟩ := I1.sq2 qy
  refine call_zipX p1.isList p2 fun h' hz hTI hTO h1 h2 _ kp => wpAny_pyIter_zip hz ?_
  refine ⟨s1.heap.objs.size + 4, [s1.heap.objs.size + 4, s1.heap.objs.size + 2, s1.heap.objs.size + 3, s1.heap.objs.size, s1.heap.objs.size + 1], _, _, H1, rfl, I1.kept (t' := s1.toks) kp, turn_zipX (PySem.W.ktu_apart s1.heap.objs.size a b p1.lt p2.lt), ⟨hz, hTI, ⟨_, _, hTO⟩, h1, h2⟩, fun c mc => ?_, q⟩
  have le : s1.heap.objs.size ≤ c := by
    simp only [List.mem_cons, List.not_mem_nil, or_false] at mc
    rcases mc with z | z | z | z | z <;> rw [z] <;> first | exact Nat.le_refl _ | exact Nat.le_add_right _ _
  exact I1.fpOk le (I1.hok.fresh le)
end Lk
set_option maxRecDepth 100000
set_option maxHeartbeats 4000000
namespace Lk
open PySem PySem.Spec PyProof.Rows L2
/-! ### sights given as tuples or as lists -/
def DuoX (H : Hp) (a : Addr) (x y : V) : Prop := H a = some (.tup [x, y]) ∨ H a = some (.lst [x, y])
def SightX (H : Hp) (q : LS) : Prop := DuoX H q.1 (.int ((q.2.1 : Nat) : Int)) (.ref q.2.2.1) ∧ RowAt H q.2.2.1 q.2.2.2
def OutX (H : Hp) (p : Addr) (qs : List LS) : Prop := H p = some (.lst (refsS qs)) ∨ H p = some (.tup (refsS qs))
theorem SightX.same {H H' : Hp} {q : LS} (s : Same H H') (h : SightX H q) : SightX H' q := ⟨h.1.imp (s _ _) (s _ _), h.2.same s⟩
theorem OutX.same {H H' : Hp} {p : Addr} {qs : List LS} (s : Same H H') (h : OutX H p qs) : OutX H' p qs := h.imp (s _ _) (s _ _)
theorem OutX.two {K : PySem.W.Frag} {H : Hp} {p : Addr} {qs : List LS} (h : OutX H p qs) : ∃ bb : Bool, ∀ H', (∀ o, H p = some o → H' p = some o) → TwoAt K bb H' p (refsS qs) := by
  rcases h with e | e
  · exact ⟨false, fun H' s => .inl (.inl (s _ e))⟩
  · exact ⟨true, fun H' s => .inl (.inl (s _ e))⟩
theorem OutX.ne {H : Hp} {p D : Addr} {qs : List LS} (h : OutX H p qs) (hD : H D = none) : p ≠ D := by
  rintro rfl
  rcases h with e | e <;> rw [hD] at e <;> cases e
theorem SightAt.x {H : Hp} {q : LS} (h : SightAt H q) : SightX H q := ⟨.inl h.1, .inl h.2⟩
def spAheadX : Sp := fun vs H Q _ => ∃ (p : Addr) (qs : List LS), vs = [.ref p] ∧ OutX H p qs ∧ qs ≠ [] ∧ qs.length ≤ 100 ∧
  ∀ l T r H', Same H H' → H l = none → H' l = some (.lst (refsS ((T, 0, r, []) :: qs.dropLast))) → SightAt H' (T, 0, r, []) → Q (.ref l) H'
def spCanSeenX : Sp := fun vs H Q _ => ∃ (sv : Addr) (gone : List Str) (a s : LS), vs = [.ref sv, .ref a.1, .ref s.1] ∧ RowAt H sv gone ∧ SightX H a ∧ SightX H s ∧ gone.length + s.2.2.2.length ≤ 60 ∧
  ∀ H', Same H H' → Q (.bl (canS gone (sgOf a) (sgOf s))) H'
def spFirstAX2 : Sp := fun vs H Q _ => ∃ (t e : Addr) (line elders : List Str), vs = [.ref t, .ref e] ∧ TupAt H t (line.map V.str) ∧ line.Nodup ∧ line.length ≤ 60 ∧ RowAt H e elders ∧
  ∀ H', Same H H' → Q (optV (fstA line 0 elders)) H'
def spRefBadX (C : Addr) : Sp := fun vs H Q E => ∃ (sv p : Addr) (gone : List Str) (qs : List LS), vs = [.ref sv, .ref p] ∧ RowAt H sv gone ∧ OutX H p qs ∧ (∀ q ∈ qs, SightX H q) ∧ qs ≠ [] ∧ qs.length ≤ 100 ∧ (∀ q ∈ qs, gone.length + q.2.2.2.length ≤ 60) ∧
  (badS gone (0, []) 0 (qs.map sgOf) = none → ∀ H', Same H H' → Q .non H') ∧
  (∀ k, badS gone (0, []) 0 (qs.map sgOf) = some k → ∀ d H', Same H H' → H d = none → H' d = some (.xd [("number", .int (k : Nat))]) → E (.ref C) (some d) H')
/-- a stretch, its parts tuples or lists -/
def StretchX (H : Hp) (q : LT) : Prop := TupAt H q.1 [.ref q.2.1, .ref q.2.2.1, .ref q.2.2.2.1] ∧ RowAt H q.2.1 q.2.2.2.2.1 ∧ RowAt H q.2.2.1 q.2.2.2.2.2.1 ∧ RowAt H q.2.2.2.1 q.2.2.2.2.2.2
theorem StretchX.same {H H' : Hp} {q : LT} (s : Same H H') (h : StretchX H q) : StretchX H' q := ⟨h.1.same s, h.2.1.same s, h.2.2.1.same s, h.2.2.2.same s⟩
/-- its rows are the sights' own, or not a list that was empty before -/
def Apart (H : Hp) (qs : List LS) (q : LT) : Prop := ∀ D, H D = some (.lst []) → (∀ s ∈ qs, s.2.2.1 ≠ D) → q.2.1 ≠ D ∧ q.2.2.1 ≠ D ∧ q.2.2.2.1 ≠ D
def spStretchX : Sp := fun vs H Q _ => ∃ (sv p : Addr) (gone : List Str) (qs : List LS), vs = [.ref sv, .ref p] ∧ RowAt H sv gone ∧ OutX H p qs ∧ (∀ q ∈ qs, SightX H q) ∧ qs ≠ [] ∧ qs.length ≤ 100 ∧ (∀ (i : Nat) (a s : Sg), (ahdS (qs.map sgOf))[i]? = some a → (qs.map sgOf)[i]? = some s → a.1 ≤ s.1 ∧ s.1 ≤ gone.length) ∧
  ∀ l (ts : List LT) H', Same H H' → H l = none → H' l = some (.lst (refsP ts)) → (∀ q ∈ ts, StretchX H' q ∧ Apart H qs q) → ts.map (fun q => q.2.2.2.2) = partsS gone (qs.map sgOf) → Q (.ref l) H'
/-- a cut behind a target -/
def gMid (t : TG) : TG := fun v σ H Q => ∃ M : L2.St → Hp → Prop, t v σ H M ∧ ∀ σ' H', M σ' H' → Q σ' H'
theorem pg_mid {X : Cx} {tg : Expr} {t : TG} (h : PG X tg t) : PG X tg (gMid t) :=
  ⟨fun pins s σ H v u Q I r ⟨M, h1, h2⟩ => thn (h.run pins s σ H v u M I r h1) fun _ s1 ⟨σ', H', I', q⟩ => ⟨σ', H', I', h2 σ' H' q⟩⟩
/-- a word is put behind what was told -/
def spSpt : Sp := fun vs H Q _ => ∃ (T p : Addr) (ys : List V), vs = [.ref T] ∧ H p = some (.lst ys) ∧ ys.length ≤ 900 ∧ ((∃ x, TupAt H T [x, .ref p]) ∨ ∃ U x y, TupAt H T [x, .ref U] ∧ TupAt H U [y, .ref p]) ∧ Q .non (upd H p (.lst (ys ++ [.str "more"])))
def spLnR38 : Sp := fun vs H Q _ => ∃ (a o g t : Addr) (x : Str) (ps : List (Str × Str)) (olds gn st : List Str), vs = [.ref a, .ref o, .ref g, .ref t, .str x] ∧ PalsAt H a ps ∧ PalsOk ps ∧ Irr ps ∧ ps.length ≤ 1000 ∧ TupAt H o (olds.map V.str) ∧ TupAt H g (gn.map V.str) ∧ TupAt H t (st.map V.str) ∧ (∀ y ∈ gn ++ st, NameOk y) ∧ (gn ++ st).Nodup ∧ gn.length + st.length ≤ 8 ∧ olds.Sublist (gn ++ st) ∧ x ∈ gn ++ st ∧ x ∉ olds ∧
  ∀ H', Same H H' → Q (.bl true) H'
def spSeR38 : Sp := fun vs H Q _ => ∃ (a g t : Addr) (ps : List (Str × Str)) (gn st : List Str), vs = [.ref a, .ref g, .ref t] ∧ PalsAt H a ps ∧ PalsOk ps ∧ Irr ps ∧ ps.length ≤ 1000 ∧ TupAt H g (gn.map V.str) ∧ TupAt H t (st.map V.str) ∧ (∀ y ∈ gn ++ st, NameOk y) ∧ (gn ++ st).Nodup ∧ gn.length + st.length ≤ 8 ∧
  ∀ H', Same H H' → Q (.bl true) H'
end Lk
set_option maxRecDepth 100000
set_option maxHeartbeats 4000000
namespace Lk
open PySem PySem.Spec PyProof.Rows L2
/-! ### parts of a story, put together -/
section
variable {ps : List (Str × Str)}
end
/-! ### two neighbours change -/
/-! ### the sights of a story -/
/-! ### all told parts make the whole -/
theorem nodup_ahd {gone : List Str} {ss : List Sg} (hb : badS gone (0, []) 0 ss = none) {i : Nat} {p : Sg} (h : ((0, []) :: ss)[i]? = some p) : (gone.take p.1 ++ p.2).Nodup := by
  cases i with
  | zero =>
    cases h
    exact List.nodup_nil
  | succ j =>
    rw [List.getElem?_cons_succ] at h
    obtain ⟨p0, h0⟩ : ∃ p0, ((0, []) :: ss)[j]? = some p0 := ⟨_, List.getElem?_eq_getElem (by
      have := (List.getElem?_eq_some_iff.mp h).1
      rw [List.length_cons]
      omega)⟩
    exact (canS_iff.mp (badS_none hb j p0 p h0 h)).2.2.1
end Lk
set_option maxRecDepth 100000
set_option maxHeartbeats 4000000
namespace Lk
open PySem PySem.Spec PyProof.Rows L2
/-! ### what is told of sights is shown -/
def spIsNum : Sp := fun vs H Q _ => ∃ (i : Int), vs = [.int i] ∧ ∀ H', Same H H' → Q (.bl true) H'
def HistOf (ps : List (Str × Str)) (pt : Pt) (ds : List Deed) : Prop := pt.2.2.length + ds.length ≤ 90 ∧ (∀ x ∈ pt.1 ++ pt.2.1, NameOk x) ∧ goD ps ds (pt.2.2, []) pt.2.2 = some (pt.2.1, pt.1)
def spShHs : Sp := fun vs H Q _ => ∃ (a p t : Addr) (ps : List (Str × Str)) (ts : List LT) (hs : List LHs), vs = [.ref a, .ref p, .ref t] ∧ FrAt H a ps ∧ ps.length ≤ 1000 ∧ H p = some (.lst (refsP ts)) ∧ (∀ q ∈ ts, StretchAt H q) ∧ H t = some (.lst (hs.map fun q => V.ref q.1)) ∧ hs.length = ts.length ∧
  (∀ (i : Nat) (h : LHs) (s : LT), hs[i]? = some h → ts[i]? = some s → H h.1 = some (.lst (refsD h.2)) ∧ DeedsAt H h.2 ∧ HistOf ps s.2.2.2.2 (h.2.map (·.2))) ∧
  ∀ H', Same H H' → Q (.bl true) H'
def PapOf (ps : List (Str × Str)) (pt : Pt) (rs : List LR) : Prop := (∀ x ∈ pt.1 ++ pt.2.1, NameOk x) ∧ (pt.1 ++ pt.2.1).Nodup ∧ pt.1.length + pt.2.1.length ≤ 60 ∧ PaperOk ps pt.2.2 pt.1 pt.2.1 rs
def spShNo : Sp := fun vs H Q _ => ∃ (a p x : Addr) (i : Nat) (ps : List (Str × Str)) (ts : List LT) (s : LT) (rs : List LR), vs = [.ref a, .ref p, .int (i : Nat), .ref x] ∧ FrAt H a ps ∧ ps.length ≤ 1000 ∧ H p = some (.lst (refsP ts)) ∧ ts[i]? = some s ∧ StretchAt H s ∧ H x = some (.lst (refsR rs)) ∧ ReasonsAt H rs ∧ PapOf ps s.2.2.2.2 rs ∧
  ∀ H', Same H H' → Q (.bl true) H'
def ThingAt (H : Hp) (x : Addr) (ps : List (Str × Str)) (pts : List Pt) : Prop :=
  (∃ (hs : List LHs), H x = some (.lst (hs.map fun q => V.ref q.1)) ∧ hs.length = pts.length ∧ ∀ (i : Nat) (q : LHs) (pt : Pt), hs[i]? = some q → pts[i]? = some pt →
    leftL ps pt.2.2 pt.1 pt.2.1 = [] ∧ H q.1 = some (.lst (refsD q.2)) ∧ DeedsAt H q.2 ∧ q.2.map (·.2) = (trace ps (stayF pt.2.2 none) pt.1 pt.1.length pt.2.1).1.reverse) ∨
  (∃ (i : Nat) (pt : Pt) (p : Addr) (rs : List LR), TupAt H x [.int (i : Nat), .ref p] ∧ pts[i]? = some pt ∧ leftL ps pt.2.2 pt.1 pt.2.1 ≠ [] ∧
    H p = some (.lst (refsR rs)) ∧ ReasonsAt H rs ∧ rs.map (fun q => q.2.2) = (leftL ps pt.2.2 pt.1 pt.2.1).map (fun x => (x, reasonOf ps (pt.1 ++ pt.2.1) pt.1.length (leftL ps pt.2.2 pt.1 pt.2.1 ++ pt.2.2) x)))
theorem SeenAt.thing {H : Hp} {T : Addr} {ps : List (Str × Str)} {pts : List Pt} (h : SeenAt H T ps pts) : ∃ (wd : Str) (x : Addr), TupAt H T [.str wd, .ref x] ∧ ThingAt H x ps pts := by
  rcases h with ⟨p, hs, h1, h2, h3, h4⟩ | ⟨i, pt, U, p, rs, h1, h2, h3, _, h5, h6, h7, h8⟩
  · exact ⟨_, _, h1, .inl ⟨hs, h2, h3, h4⟩⟩
  · exact ⟨_, _, h1, .inr ⟨i, pt, p, rs, h2, h3, h5, h6, h7, h8⟩⟩
def spShSe : Sp := fun vs H Q _ => ∃ (a sv p x : Addr) (ps : List (Str × Str)) (gone : List Str) (qs : List LS), vs = [.ref a, .ref sv, .ref p, .ref x] ∧ FrAt H a ps ∧ ps.length ≤ 1000 ∧ Irr ps ∧ TupAt H sv (gone.map V.str) ∧ H p = some (.lst (refsS qs)) ∧ SightsAt H qs ∧ qs ≠ [] ∧ qs.length ≤ 100 ∧ badS gone (0, []) 0 (qs.map sgOf) = none ∧
  (∀ x ∈ gone, NameOk x) ∧ (∀ q ∈ qs, (∀ x ∈ q.2.2.2, NameOk x) ∧ gone.length + q.2.2.2.length ≤ 40) ∧ ThingAt H x ps (partsS gone (qs.map sgOf)) ∧
  ∀ H', Same H H' → Q (.bl true) H'
theorem ReasonsAt.same' {H H' : Hp} {rs : List LR} (s : Same H H') (h : ReasonsAt H rs) : ReasonsAt H' rs := fun q hq => (h q hq).same s
theorem ThingAt.same {H H' : Hp} {x : Addr} {ps : List (Str × Str)} {pts : List Pt} (s : Same H H') (h : ThingAt H x ps pts) : ThingAt H' x ps pts := by
  rcases h with ⟨hs, h2, h3, h4⟩ | ⟨i, pt, p, rs, h2, h3, h5, h6, h7, h8⟩
  · exact .inl ⟨hs, s _ _ h2, h3, fun i q pt a b => by
      obtain ⟨z1, z2, z3, z4⟩ := h4 i q pt a b
      exact ⟨z1, s _ _ z2, z3.same s, z4⟩⟩
  · exact .inr ⟨i, pt, p, rs, h2.same s, h3, h5, s _ _ h6, ReasonsAt.same' s h7, h8⟩
/-- what holds of the parts, of names that can be -/
theorem part_names {gone : List Str} {ss : List Sg} {i : Nat} {pt : Pt} (h : badS gone (0, []) 0 ss = none) (gg : ∀ x ∈ gone, NameOk x) (gs : ∀ s ∈ ss, (∀ x ∈ s.2, NameOk x) ∧ gone.length + s.2.length ≤ 40) (hp : (partsS gone ss)[i]? = some pt) :
    (∀ x ∈ pt.1 ++ pt.2.1, NameOk x) ∧ (pt.1 ++ pt.2.1).Nodup ∧ pt.2.1.length + 2 * pt.1.length ≤ 80 ∧ pt.1.length + pt.2.1.length ≤ 60 ∧ InLine (pt.1 ++ pt.2.1) pt.2.2 ∧ pt.2.2.Sublist (pt.1 ++ pt.2.1) := by
  have hi : i < ss.length := by rw [← partsS_len gone ss]; exact (List.getElem?_eq_some_iff.mp hp).1
  obtain ⟨s, hs⟩ : ∃ s, ss[i]? = some s := ⟨_, List.getElem?_eq_getElem hi⟩
  have ea := ahdS_at hs
  obtain ⟨a, ha⟩ : ∃ a, ((0, []) :: ss)[i]? = some a := ⟨_, List.getElem?_eq_getElem (by rw [List.length_cons]; omega)⟩
  rw [ha] at ea
  rw [partsS_at ea hs] at hp
  cases hp
  obtain ⟨g1, g2⟩ := gs s (List.mem_of_getElem? hs)
  have ok := parts_ok h i a s ea hs
  have na := (List.nodup_append.mp (nodup_ahd h ha)).2.1
  have le : ((gone.take s.1).drop a.1).length ≤ gone.length := by rw [List.length_drop, List.length_take]; omega
  refine ⟨fun z hz => ?_, ok.nd2, ?_, ?_, ok.il, ?_⟩
  · rcases List.mem_append.mp hz with k | k
    · exact gg z (List.mem_of_mem_take (List.mem_of_mem_drop k))
    · exact g1 z k
  · show s.2.length + 2 * ((gone.take s.1).drop a.1).length ≤ 80
    omega
  · show ((gone.take s.1).drop a.1).length + s.2.length ≤ 60
    omega
  · have h1 := (inLine_filter ok.nd2 na).mp ok.il
    have h2 : (((gone.take s.1).drop a.1 ++ s.2).filter fun x => decide (x ∈ a.2)).Sublist ((gone.take s.1).drop a.1 ++ s.2) := List.filter_sublist
    exact h1 ▸ h2
theorem part_hist {ps : List (Str × Str)} {pt : Pt} (irr : Irr ps) (nm : ∀ x ∈ pt.1 ++ pt.2.1, NameOk x) (nd : (pt.1 ++ pt.2.1).Nodup) (le : pt.2.1.length + 2 * pt.1.length ≤ 80) (sub : pt.2.2.Sublist (pt.1 ++ pt.2.1)) (h0 : leftL ps pt.2.2 pt.1 pt.2.1 = []) :
    HistOf ps pt (trace ps (stayF pt.2.2 none) pt.1 pt.1.length pt.2.1).1.reverse := by
  obtain ⟨h1, h2⟩ := told_go irr nd sub h0
  exact ⟨by omega, nm, h1⟩
/-! ### more who are served behind them -/
def a8 : Str := "aaaaaaaa"
def b8 : Str := "bbbbbbbb"
end Lk
set_option maxRecDepth 100000
set_option maxHeartbeats 4000000
namespace Lk
open PySem PySem.Spec PyProof.Rows L2 PySem.Builtin
/-! ### what is written is a good text -/
def LowC (xs : List Nat) : Prop := ∀ c ∈ xs, c < 0x110000
theorem good_low {x : Str} : Good x ↔ LowC x.cps.toList := by
  unfold Good PyData.strOk LowC
  rw [← Array.all_toList, List.all_eq_true]
  exact ⟨fun h c hc => of_decide_eq_true (h c hc), fun h c hc => decide_eq_true (h c hc)⟩
theorem LowC.app {a b : List Nat} (h : LowC a) (k : LowC b) : LowC (a ++ b) := fun c hc => (List.mem_append.mp hc).elim (h c) (k c)
theorem Good.app {a b : Str} (h : Good a) (k : Good b) : Good (a ++ b) := by
  rw [good_low] at *
  show LowC (a.cps ++ b.cps).toList
  rw [Array.toList_append]
  exact h.app k
theorem low_chars (cs : List Char) : LowC (cs.map Char.toNat) := fun c hc => by
  obtain ⟨x, _, rfl⟩ := List.mem_map.mp hc
  rcases x.valid with h | ⟨_, h⟩
  · exact Nat.lt_of_lt_of_le h (by decide)
  · exact h
theorem good_string (s : String) : Good (Str.ofString s) := by
  rw [good_low]
  intro c hc
  rw [Str.ofString_eq_toList] at hc
  exact low_chars _ c hc
theorem low_hex (w c : Nat) : LowC (List.replicate (w - ((Nat.toDigits 16 c).map Char.toNat).length) 48 ++ (Nat.toDigits 16 c).map Char.toNat) :=
  LowC.app (fun y hy => by rw [(List.mem_replicate.mp hy).2]; decide) (low_chars _)
theorem low_char {q c : Nat} (hc : c < 0x110000) : LowC (Str.reprChar q c) := by
  have two : ∀ a b : Nat, a < 0x110000 → b < 0x110000 → LowC [a, b] := fun a b ha hb y hy => by
    rcases List.mem_cons.mp hy with e | e
    · subst e; exact ha
    · rw [List.mem_singleton.mp e]; exact hb
  unfold Str.reprChar
  split
  · exact two _ _ (by decide) hc
  split
  · exact two _ _ (by decide) (by decide)
  split
  · exact two _ _ (by decide) (by decide)
  split
  · exact two _ _ (by decide) (by decide)
  split
  · intro y hy
    rw [List.mem_singleton.mp hy]
    exact hc
  split
  · exact (two _ _ (by decide) (by decide)).app (low_hex _ _)
  split
  · exact (two _ _ (by decide) (by decide)).app (low_hex _ _)
  · exact (two _ _ (by decide) (by decide)).app (low_hex _ _)
theorem low_fold (q : Nat) : ∀ (l : List Nat) (acc : Array Nat), LowC l → LowC acc.toList → LowC (l.foldl (fun out c => out ++ (Str.reprChar q c).toArray) acc).toList
  | [], acc, _, h => h
  | c :: r, acc, hl, h => by
    rw [List.foldl_cons]
    refine low_fold q r _ (fun y hy => hl y (List.mem_cons_of_mem _ hy)) ?_
    rw [Array.toList_append]
    exact h.app (low_char (hl c List.mem_cons_self))
theorem low_quote (x : Str) : reprQuote x < 0x110000 := by
  unfold reprQuote
  split <;> decide
theorem good_repr {x : Str} (h : Good x) : Good (reprText x) := by
  rw [good_low] at *
  unfold reprText
  show LowC (Array.push (x.cps.foldl (fun out c => out ++ (Str.reprChar (reprQuote x) c).toArray) #[reprQuote x]) (reprQuote x)).toList
  rw [Array.toList_push, ← Array.foldl_toList]
  refine LowC.app (low_fold _ _ _ h ?_) ?_
  · intro y hy
    have : y = reprQuote x := by simpa using hy
    rw [this]
    exact low_quote x
  · intro y hy
    rw [List.mem_singleton.mp hy]
    exact low_quote x
theorem good_from : ∀ (ts : List Str) (k : Nat) (acc : Str), Good acc → (∀ t ∈ ts, Good t) → Good (textFrom k acc ts)
  | [], _, _, h, _ => h
  | t :: r, k, acc, h, ht => by
    unfold textFrom
    refine good_from r _ _ ((h.app ?_).app (ht t List.mem_cons_self)) fun y hy => ht y (List.mem_cons_of_mem _ hy)
    exact good_string _
theorem good_join : ∀ ts : List Str, (∀ t ∈ ts, Good t) → Good (Str.join ", " ts)
  | [], _ => good_string ""
  | [x], h => h x List.mem_cons_self
  | x :: y :: r, h => ((h x List.mem_cons_self).app (good_string ", ")).app (good_join (y :: r) fun t ht => h t (List.mem_cons_of_mem _ ht))
theorem good_list {ts : List Str} (h : ∀ t ∈ ts, Good t) : Good (listText ts) := (good_from ts 0 "[" (good_string "[") h).app (good_string "]")
theorem good_tuple {ts : List Str} (h : ∀ t ∈ ts, Good t) : Good (tupleText ts) := ((good_string "(").app (good_join ts h)).app (good_string _)
mutual
theorem good_shown : ∀ d : PyData, d.canLay0 = true → Good d.shown
  | .none, _ => by rw [PyData.shown]; exact good_string "None"
  | .bool b, _ => by
    rw [PyData.shown]
    cases b
    · exact good_string "False"
    · exact good_string "True"
  | .int i, _ => by rw [PyData.shown]; exact good_string _
  | .str x, h => by
    rw [PyData.shown]
    exact good_repr (show PyData.strOk x = true by simpa only [PyData.canLay0] using h)
  | .list xs, h => by
    rw [PyData.shown]
    exact good_list (goods_shown xs (by simpa only [PyData.canLay0] using h))
  | .tuple xs, h => by
    rw [PyData.shown]
    exact good_tuple (goods_shown xs (by simpa only [PyData.canLay0] using h))
  | .dict _, h => by simp only [PyData.canLay0] at h; exact nomatch h
theorem goods_shown : ∀ ds : List PyData, PyData.canLayAll0 ds = true → ∀ t ∈ PyData.shownAll ds, Good t
  | [], _ => by
    rw [PyData.shownAll]
    exact fun _ h => nomatch h
  | d :: ds, h => by
    have h' : d.canLay0 = true ∧ PyData.canLayAll0 ds = true := by simpa only [PyData.canLayAll0, Bool.and_eq_true] using h
    rw [PyData.shownAll]
    intro t ht
    rcases List.mem_cons.mp ht with e | e
    · rw [e]
      exact good_shown d h'.1
    · exact goods_shown ds h'.2 t e
end
end Lk
set_option maxRecDepth 100000
set_option maxHeartbeats 4000000
namespace Lk
open PySem PySem.Spec PyProof.Rows L2
/-! ### called by names alone, in any order -/
def gP {α : Type} (is : List Nat) (ws : List α) : List α := is.filterMap fun i => ws[i]?
theorem vals_at : ∀ {zs : List V} {ws : List Value}, Vals zs ws → ∀ i : Nat, (zs[i]? = none ∧ ws[i]? = none) ∨ ∃ z u, zs[i]? = some z ∧ ws[i]? = some u ∧ RelV z u
  | _, _, .nil, i => .inl ⟨rfl, rfl⟩
  | _, _, .cons r t, 0 => .inr ⟨_, _, rfl, rfl, r⟩
  | _, _, .cons r t, i + 1 => vals_at t i
theorem gP_vals {zs : List V} {ws : List Value} (r : Vals zs ws) : ∀ is : List Nat, Vals (gP is zs) (gP is ws)
  | [] => .nil
  | i :: is => by
    have t := gP_vals r is
    rcases vals_at r i with ⟨h1, h2⟩ | ⟨z, u, h1, h2, h3⟩
    · have e1 : gP (i :: is) zs = gP is zs := by simp [gP, h1]
      have e2 : gP (i :: is) ws = gP is ws := by simp [gP, h2]
      rw [e1, e2]
      exact t
    · have e1 : gP (i :: is) zs = z :: gP is zs := by simp [gP, h1]
      have e2 : gP (i :: is) ws = u :: gP is ws := by simp [gP, h2]
      rw [e1, e2]
      exact .cons h3 t
structure CalN (P : Program) (w : World) (K : PySem.W.Frag) (mg : Str → Option Value) (base : Heap) (k : Nat) (x : Str) (ps ks : List Str) (is : List Nat) (sp : Sp) : Prop where
  ex : ∃ f fd, FnOk P w K mg base CX0 k f fd ps sp ∧ mg x = some (.ref f) ∧ PySem.W.keepIn K (.ref f) = true ∧ KBn K fd ps 0 ks (fun _ ws => gP is ws) (fun _ zs => gP is zs)
section
variable {X : Cx} {k m : Nat} {x : Str} {ps ks : List Str} {is : List Nat} {sp : Sp} {p pos : Pos} {kws : List Keyword} {tk : TA}
theorem pe_caln (C : CalN X.prog X.w X.K X.mg X.base k x ps ks is sp) (hr : Room m X.A) (hkw : PK X kws tk) (hle : k ≤ m := by first | decide | omega) (hg : Gl X x := by rfl)
    (hall : (backToKw pos (keywordEach kws X.env)).all (·.1.isSome) = true := by rfl) (hks : (backToKw pos (keywordEach kws X.env)).filterMap (·.1) = ks := by rfl)
    (hdb : (x == ("__debug__" : Str)) = false := by decide)
    (hpl : ((backTo pos (starEach [] X.env)).any (·.1) || (backToKw pos (keywordEach kws X.env)).any (·.1.isNone)) = false := by rfl) :
    PE X (.Call (.Name x p) [] kws pos) (tCallN 0 ks.length sp (fun _ zs => gP is zs) E0 tNil tk) := by
  obtain ⟨f, fd, F, hm, hk, b⟩ := C.ex
  exact pe_callN0 F (hr.mono hle) hg hm hk b pass0 hkw (hall := hall) (hks := hks) (hdb := hdb) (hpl := hpl)
end
theorem caln_mk {P : Program} {w : World} {K : PySem.W.Frag} {mg : Str → Option Value} {base : Heap} {k : Nat} {x : Str} {ps : List Str} {st : Stmt} {sp : Sp} {f : Addr} {fd : FuncData} (F : Fun K x x st f fd) (hm : mg x = some (.ref f)) (ok : FnOk P w K mg base CX0 k f fd ps sp) (ks : List Str) (is : List Nat)
    (hb : ∀ (kV doc pm : Value) (an : Option Addr) (cdv ct : Value) (ws : List Value), ws.length = ks.length → bindArgs (PySem.W.fnOf x x (defArgs st) (defBody st) (defScope st) .none kV doc pm an cdv ct) ⟨[], ks.zip ws⟩ = pure (ps.zip (gP is ws))) :
    CalN P w K mg base k x ps ks is sp := by
  have kp := F.kp
  obtain ⟨oc, od, kV, doc, pm, an, cdv, ct, osl, rfl, lk, hcd⟩ := F.ex
  refine ⟨⟨f, _, ok, hm, kp, ⟨fun s us ws _ h1 h2 => ?_, fun _ r => gP_vals r is⟩⟩⟩
  rw [List.length_eq_zero_iff.mp h1]
  exact .of_eq (hb kV doc pm an cdv ct ws h2)
/-! ### what is told, as data -/
theorem fit_encD {d : Deed} (h : ∀ x, d = some x → NameOk x) : Fit 1 18 (encD d) := by
  cases d with
  | none => exact (fit_tuple (n := 0) (w := 8) (m := 2) (fitl_cons (fit_str good_serve (by decide)) fitl_nil) (by decide)).mono (Nat.le_refl _) (by decide)
  | some x => exact (fit_tuple (n := 0) (w := 8) (m := 2) (fitl_cons (fit_str good_come (by decide)) (fitl_cons (fit_str (h x rfl).good (h x rfl).len) fitl_nil)) (by show 2 ≤ 2; decide)).mono (Nat.le_refl _) (by decide)
theorem fit_encs {ds : List Deed} (h : ∀ d ∈ ds, ∀ x, d = some x → NameOk x) (hn : ds.length ≤ 100) : Fit 2 1900 (.list (ds.map encD)) :=
  (fit_list (n := 1) (w := 18) (m := 100) (fun d hd => by obtain ⟨x, hx, rfl⟩ := List.mem_map.mp hd; exact fit_encD (h x hx)) (by rw [List.length_map]; exact hn)).mono (Nat.le_refl _) (by decide)
theorem lay_encs {ds : List Deed} (h : ∀ d ∈ ds, ∀ x, d = some x → NameOk x) : PyData.canLayAll0 (ds.map encD) = true := by
  have := lay_deeds (ds := ds.map fun d => ((0 : Nat), d)) (fun q hq x e => by
    obtain ⟨d, hd, rfl⟩ := List.mem_map.mp hq
    exact (h d hd x e).good)
  rwa [List.map_map] at this
def reasD (x : Str) (r : Str × List Str) : PyData := .tuple [.str x, .str r.1, .tuple (r.2.map .str)]
def paperD (ps : List (Str × Str)) (elders svd row : List Str) : PyData := .list ((leftL ps elders svd row).map fun x => reasD x (reasonOf ps (svd ++ row) svd.length (leftL ps elders svd row ++ elders) x))
def deedsOf (ps : List (Str × Str)) (elders svd row : List Str) : List Deed := (trace ps (stayF elders none) svd svd.length row).1.reverse
section
variable {K : PySem.W.Frag} {ps : List (Str × Str)} {olds gn st : List Str}
theorem deeds_names (irr : Irr ps) (nd : (gn ++ st).Nodup) (sub : olds.Sublist (gn ++ st)) (nm : ∀ x ∈ gn ++ st, NameOk x) (h0 : leftL ps olds gn st = []) : ∀ d ∈ deedsOf ps olds gn st, ∀ x, d = some x → NameOk x := fun d hd x e => by
  have go := (told_go irr nd sub h0).1
  have pm' : (gn ++ st).Perm (comers (deedsOf ps olds gn st) ++ olds) := by simpa [deedsOf] using go_perm _ _ _ _ go
  subst e
  exact nm x (pm'.mem_iff.mpr (List.mem_append_left _ (mem_comers.mpr hd)))
theorem deeds_len (irr : Irr ps) (nd : (gn ++ st).Nodup) (sub : olds.Sublist (gn ++ st)) (ln : st.length + 2 * gn.length ≤ 80) (h0 : leftL ps olds gn st = []) : (deedsOf ps olds gn st).length ≤ 80 := by
  have := (told_go irr nd sub h0).2
  have e : (deedsOf ps olds gn st).length = (trace ps (stayF olds none) gn gn.length st).1.reverse.length := rfl
  omega
theorem dp_told {H : Hp} {u : Addr} {ds : List LD} (hu : H u = some (.lst (refsD ds))) (hd : DeedsAt H ds) (e : ds.map (·.2) = deedsOf ps olds gn st) : Dp K H (.ref u) (.list ((deedsOf ps olds gn st).map encD)) := by
  rw [← e, List.map_map]
  exact .lst (.inl (.inl hu)) (dp_deeds hd)
theorem dp_paper {H : Hp} {p : Addr} {rs : List LR} (hp : H p = some (.lst (refsR rs))) (hr : ReasonsAt H rs) (e : rs.map (fun q => q.2.2) = (leftL ps olds gn st).map (fun x => (x, reasonOf ps (gn ++ st) gn.length (leftL ps olds gn st ++ olds) x))) : Dp K H (.ref p) (paperD ps olds gn st) := by
  have e2 : rs.map reasonD = (leftL ps olds gn st).map fun x => reasD x (reasonOf ps (gn ++ st) gn.length (leftL ps olds gn st ++ olds) x) := by
    have := congrArg (List.map fun z : Str × Str × List Str => reasD z.1 z.2) e
    rw [List.map_map, List.map_map] at this
    exact this
  unfold paperD
  rw [← e2]
  exact .lst (.inl (.inl hp)) (dp_reasonsA hr)
theorem ReasonOk.wlen {line : List Str} {many : Nat} {x w : Str} {os : List Str} (h : ReasonOk ps line many x w os) : w.length ≤ 8 := by
  rcases h with ⟨f, rfl, _⟩ | ⟨z, rfl, _⟩ | ⟨h, y, rfl, _⟩ <;> decide
theorem ReasonOk.few {line : List Str} {many : Nat} {x w : Str} {os : List Str} (h : ReasonOk ps line many x w os) : os.length ≤ 2 := by
  rcases h with ⟨f, _, rfl, _⟩ | ⟨z, _, rfl, _⟩ | ⟨h, y, _, _, _, _, _, ⟨_, z, rfl, _, _⟩ | ⟨_, rfl⟩⟩ <;> simp
theorem paper_each (irr : Irr ps) (nd : (gn ++ st).Nodup) (sub : olds.Sublist (gn ++ st)) {x : Str} (hx : x ∈ leftL ps olds gn st) : x ∈ gn ++ st ∧ ReasonOk ps (gn ++ st) gn.length x (reasonOf ps (gn ++ st) gn.length (leftL ps olds gn st ++ olds) x).1 (reasonOf ps (gn ++ st) gn.length (leftL ps olds gn st ++ olds) x).2 :=
  ⟨(left_sub irr nd).subset hx, (reason_bars nd (left_tell irr nd (fun x hx => sub.subset hx) hx)).1⟩
theorem fit_paper (irr : Irr ps) (nd : (gn ++ st).Nodup) (sub : olds.Sublist (gn ++ st)) (nm : ∀ x ∈ gn ++ st, NameOk x) (ln : gn.length + st.length ≤ 100) : Fit 3 6000 (paperD ps olds gn st) := by
  refine (fit_list (n := 2) (w := 57) (m := 100) (fun d hd => ?_) ?_).mono (Nat.le_refl _) (by decide)
  · obtain ⟨x, hx, rfl⟩ := List.mem_map.mp hd
    obtain ⟨m1, ok⟩ := paper_each irr nd sub hx
    refine (fit_tuple (n := 1) (w := 18) (m := 3) ?_ (by show 3 ≤ 3; decide)).mono (Nat.le_refl _) (by decide)
    refine fitl_cons ((fit_str (nm x m1).good (nm x m1).len).mono (by decide) (by decide)) (fitl_cons ((fit_str ok.good ok.wlen).mono (by decide) (by decide)) (fitl_cons ?_ fitl_nil))
    refine (fit_tuple (n := 0) (w := 8) (m := 2) (fun d hd => ?_) (by rw [List.length_map]; exact ok.few)).mono (Nat.le_refl _) (by decide)
    obtain ⟨y, hy, rfl⟩ := List.mem_map.mp hd
    exact fit_str (nm y (ok.mem y hy)).good (nm y (ok.mem y hy)).len
  · rw [List.length_map]
    have := (left_sub (elders := olds) irr nd).length_le
    rw [List.length_append] at this
    omega
theorem lay_paper (irr : Irr ps) (nd : (gn ++ st).Nodup) (sub : olds.Sublist (gn ++ st)) (nm : ∀ x ∈ gn ++ st, NameOk x) : (paperD ps olds gn st).canLay0 = true := by
  have all : ∀ xs : List Str, (∀ x ∈ xs, x ∈ leftL ps olds gn st) → PyData.canLayAll0 (xs.map fun x => reasD x (reasonOf ps (gn ++ st) gn.length (leftL ps olds gn st ++ olds) x)) = true := by
    intro xs
    induction xs with
    | nil => intro _; simp [PyData.canLayAll0]
    | cons x r ih =>
      intro h
      obtain ⟨m1, ok⟩ := paper_each irr nd sub (h x List.mem_cons_self)
      have h1 : PyData.strOk x = true := (nm x m1).good
      have h2 : PyData.strOk (reasonOf ps (gn ++ st) gn.length (leftL ps olds gn st ++ olds) x).1 = true := ok.good
      have h3 : PyData.canLayAll0 ((reasonOf ps (gn ++ st) gn.length (leftL ps olds gn st ++ olds) x).2.map .str) = true := lay_strs fun y hy => (nm y (ok.mem y hy)).good
      have h4 := ih fun y hy => h y (List.mem_cons_of_mem _ hy)
      simp only [List.map_cons, PyData.canLayAll0, PyData.canLay0, reasD, h1, h2, h3, Bool.and_self, Bool.true_and]
      exact h4
  unfold paperD
  simp only [PyData.canLay0]
  exact all _ fun _ h => h
theorem good_dn : PyData.strOk "deeds" = true ∧ PyData.strOk "none" = true := by
  refine ⟨?_, ?_⟩ <;> decide +kernel
/-- what is told of a line is the same each time -/
theorem told_data (irr : Irr ps) (nd : (gn ++ st).Nodup) (sub : olds.Sublist (gn ++ st)) (nm : ∀ x ∈ gn ++ st, NameOk x) (ln : st.length + 2 * gn.length ≤ 80) :
    ∃ d : PyData, d.canLay0 = true ∧ ∀ H T, ToldAt H T ps olds gn st → Shown K H (.ref T) d := by
  by_cases h0 : leftL ps olds gn st = []
  · have dn := deeds_names irr nd sub nm h0
    have dl := deeds_len irr nd sub ln h0
    refine ⟨.tuple [.str "deeds", .list ((deedsOf ps olds gn st).map encD)], ?_, fun H T told => ?_⟩
    · simp only [PyData.canLay0, PyData.canLayAll0, good_dn.1, lay_encs dn, Bool.and_self]
    · rcases told with ⟨_, u, ds, hT, hu, hds, eds⟩ | ⟨n, _⟩
      · have f : Fit 3 _ (.tuple [.str "deeds", .list ((deedsOf ps olds gn st).map encD)]) := fit_tuple (n := 2) (w := 1900) (m := 2) (fitl_cons ((fit_str (m := 8) good_dn.1 (by decide)).mono (by decide) (by decide)) (fitl_cons (fit_encs dn (by omega)) fitl_nil)) (by show 2 ≤ 2; decide)
        exact Shown.mk_ (.tup hT.sq (.cons (.str _) (.cons (dp_told hu hds eds) .nil))) f
      · exact absurd h0 n
  · refine ⟨.tuple [.str "none", paperD ps olds gn st], ?_, fun H T told => ?_⟩
    · simp only [PyData.canLay0, PyData.canLayAll0, good_dn.2, lay_paper irr nd sub nm, Bool.and_self]
    · rcases told with ⟨n, _⟩ | ⟨_, p, rs, hT, hp, hrs, ers⟩
      · exact absurd n h0
      · have f : Fit 4 _ (.tuple [.str "none", paperD ps olds gn st]) := fit_tuple (n := 3) (w := 6000) (m := 2) (fitl_cons ((fit_str (m := 8) good_dn.2 (by decide)).mono (by decide) (by decide)) (fitl_cons ((fit_paper irr nd sub nm (by omega)).mono (by decide) (Nat.le_refl _)) fitl_nil)) (by show 2 ≤ 2; decide)
        exact Shown.mk_ (.tup hT.sq (.cons (.str _) (.cons (dp_paper hp hrs ers) .nil))) f
end
/-- so is what is told of sights -/
theorem seen_data {K : PySem.W.Frag} {ps : List (Str × Str)} {pts : List Pt} (irr : Irr ps) (hl : pts.length ≤ 100) (hp : ∀ pt ∈ pts, (∀ x ∈ pt.1 ++ pt.2.1, NameOk x) ∧ (pt.1 ++ pt.2.1).Nodup ∧ pt.2.1.length + 2 * pt.1.length ≤ 80 ∧ pt.2.2.Sublist (pt.1 ++ pt.2.1)) :
    ∃ d : PyData, d.canLay0 = true ∧ ∀ H T, SeenAt H T ps pts → Shown K H (.ref T) d := by
  by_cases h0 : ∀ pt ∈ pts, leftL ps pt.2.2 pt.1 pt.2.1 = []
  · have each : ∀ pt ∈ pts, Fit 2 1900 (.list ((deedsOf ps pt.2.2 pt.1 pt.2.1).map encD)) ∧ PyData.canLay0 (.list ((deedsOf ps pt.2.2 pt.1 pt.2.1).map encD)) = true := fun pt m => by
      obtain ⟨n1, n2, n3, n4⟩ := hp pt m
      have dn := deeds_names irr n2 n4 n1 (h0 pt m)
      have dl := deeds_len irr n2 n4 n3 (h0 pt m)
      exact ⟨fit_encs dn (by omega), by simp only [PyData.canLay0]; exact lay_encs dn⟩
    have lay : ∀ qs : List Pt, (∀ q ∈ qs, q ∈ pts) → PyData.canLayAll0 (qs.map fun pt => .list ((deedsOf ps pt.2.2 pt.1 pt.2.1).map encD)) = true := by
      intro qs
      induction qs with
      | nil => intro _; simp [PyData.canLayAll0]
      | cons q r ih =>
        intro h
        have h1 := (each q (h q List.mem_cons_self)).2
        have h2 := ih fun y hy => h y (List.mem_cons_of_mem _ hy)
        rw [List.map_cons, PyData.canLayAll0, h1, h2]
        rfl
    refine ⟨.tuple [.str "deeds", .list (pts.map fun pt => .list ((deedsOf ps pt.2.2 pt.1 pt.2.1).map encD))], ?_, fun H T told => ?_⟩
    · simp only [PyData.canLay0, PyData.canLayAll0, good_dn.1, lay pts fun _ h => h, Bool.and_self]
    · rcases told with ⟨p, hs, hT, hpp, hn, hh⟩ | ⟨i, pt, U, p, rs, _, _, hi, _, ne, _⟩
      · have f : Fit 4 ((190100 + 1) * 2) (.tuple [.str "deeds", .list (pts.map fun pt => .list ((deedsOf ps pt.2.2 pt.1 pt.2.1).map encD))]) := by
          refine fit_tuple (n := 3) (w := 190100) (m := 2) (fitl_cons ((fit_str (m := 8) good_dn.1 (by decide)).mono (by decide) (by decide)) (fitl_cons ?_ fitl_nil)) (by show 2 ≤ 2; decide)
          refine (fit_list (n := 2) (w := 1900) (m := 100) (fun d hd => ?_) (by rw [List.length_map]; exact hl)).mono (Nat.le_refl _) (by decide)
          obtain ⟨pt, m, rfl⟩ := List.mem_map.mp hd
          exact (each pt m).1
        refine Shown.mk_ (.tup hT.sq (.cons (.str _) (.cons (.lst (.inl (.inl hpp)) ?_) .nil))) f
        have all : ∀ (hs : List LHs) (qs : List Pt), hs.length = qs.length → (∀ (i : Nat) (q : LHs) (pt : Pt), hs[i]? = some q → qs[i]? = some pt → Dp K H (.ref q.1) (.list ((deedsOf ps pt.2.2 pt.1 pt.2.1).map encD))) → DpAll K H (hs.map fun q => V.ref q.1) (qs.map fun pt => .list ((deedsOf ps pt.2.2 pt.1 pt.2.1).map encD)) := by
          intro hs
          induction hs with
          | nil =>
            intro qs hl _
            cases qs with
            | nil => exact .nil
            | cons _ _ => exact absurd hl (by simp)
          | cons h r ih =>
            intro qs hl hd
            cases qs with
            | nil => exact absurd hl (by simp)
            | cons q qs => exact .cons (hd 0 h q rfl rfl) (ih qs (by simpa using hl) fun i a b h1 h2 => hd (i + 1) a b h1 h2)
        refine all hs pts hn fun i q pt h1 h2 => ?_
        obtain ⟨_, k1, k2, k3⟩ := hh i q pt h1 h2
        exact dp_told k1 k2 k3
      · exact absurd (h0 pt (List.mem_of_getElem? hi)) ne
  · have hex : ∃ i : Nat, ∃ pt, pts[i]? = some pt ∧ leftL ps pt.2.2 pt.1 pt.2.1 ≠ [] := by
      refine Classical.byContradiction fun z => h0 fun pt m => Classical.byContradiction fun ne => ?_
      obtain ⟨i, hi⟩ := List.getElem?_of_mem m
      exact z ⟨i, pt, hi, ne⟩
    obtain ⟨i, ⟨pt, hi, ne⟩, mn⟩ : ∃ i : Nat, (∃ pt, pts[i]? = some pt ∧ leftL ps pt.2.2 pt.1 pt.2.1 ≠ []) ∧ ∀ j, j < i → ¬ ∃ pt, pts[j]? = some pt ∧ leftL ps pt.2.2 pt.1 pt.2.1 ≠ [] := by
      obtain ⟨i, hi⟩ := hex
      induction i using Nat.strongRecOn with
      | _ i ih =>
        by_cases c : ∃ j, j < i ∧ ∃ pt, pts[j]? = some pt ∧ leftL ps pt.2.2 pt.1 pt.2.1 ≠ []
        · obtain ⟨j, hj, hz⟩ := c
          exact ih j hj hz
        · exact ⟨i, hi, fun j hj z => c ⟨j, hj, z⟩⟩
    obtain ⟨n1, n2, n3, n4⟩ := hp pt (List.mem_of_getElem? hi)
    have il : i < pts.length := (List.getElem?_eq_some_iff.mp hi).1
    refine ⟨.tuple [.str "none", .tuple [.int (i : Nat), paperD ps pt.2.2 pt.1 pt.2.1]], ?_, fun H T told => ?_⟩
    · simp only [PyData.canLay0, PyData.canLayAll0, good_dn.2, lay_paper irr n2 n4 n1, Bool.and_self]
    · rcases told with ⟨p, hs, hT, hpp, hn, hh⟩ | ⟨j, pj, U, p, rs, hT, hU, hj, fine, nej, hpp, hrs, ers⟩
      · have : i < hs.length := by omega
        exact absurd (hh i _ pt (List.getElem?_eq_getElem this) hi).1 ne
      · have ej : j = i := by
          rcases Nat.lt_trichotomy j i with c | c | c
          · exact absurd ⟨pj, hj, nej⟩ (mn j c)
          · exact c
          · exact absurd (fine i pt c hi) ne
        subst ej
        obtain rfl : pt = pj := Option.some.inj (hi.symm.trans hj)
        have f : Fit 5 ((13000 + 1) * 2) (.tuple [.str "none", .tuple [.int (j : Nat), paperD ps pt.2.2 pt.1 pt.2.1]]) := by
          refine fit_tuple (n := 4) (w := 13000) (m := 2) (fitl_cons ((fit_str (m := 8) good_dn.2 (by decide)).mono (by decide) (by decide)) (fitl_cons ?_ fitl_nil)) (by show 2 ≤ 2; decide)
          refine (fit_tuple (n := 3) (w := 6000) (m := 2) (fitl_cons ((fit_int (by omega)).mono (by decide) (by decide)) (fitl_cons ((fit_paper irr n2 n4 n1 (by omega)).mono (by decide) (Nat.le_refl _)) fitl_nil)) (by show 2 ≤ 2; decide)).mono (Nat.le_refl _) (by decide)
        exact Shown.mk_ (.tup hT.sq (.cons (.str _) (.cons (.tup hU.sq (.cons (.int _) (.cons (dp_paper hpp hrs ers) .nil))) .nil))) f
/-! ### a list of each pair -/
theorem lc_lists {K : PySem.W.Frag} {bs : List B3} {a : Addr} {g : TG} {te : TE} {vs : List Nat} {σ : L2.St} {H1 : Hp} {D : Addr} {Qd : Hp → Prop} (h1 : H1 a = some (.tup (refs bs))) (p1 : ∀ c ∈ bs, H1 c.1 = some (.tup [.str c.2.1, .str c.2.2])) (hb : bs.length ≤ 1000) (hD : H1 D = none)
    (hs : ∀ (c : B3) (H' : Hp) (k : V → Hp → Prop), c ∈ bs → Same H1 H' → (∀ L, H' L = none → k (.ref L) (upd H' L (.lst [.str c.2.1, .str c.2.2]))) → g (.ref c.1) (wipe σ vs) H' fun σ2 H2 => wipe σ2 vs = wipe σ vs ∧ te σ2 H2 k)
    (hd : ∀ H (cs : List B3), Same H1 H → H D = some (.lst (refs cs)) → (∀ c ∈ cs, H1 c.1 = none ∧ H c.1 = some (.lst [.str c.2.1, .str c.2.2])) → cs.map (·.2) = bs.map (·.2) → Qd H) :
    ∃ W : Nat → Nat → Hp → Prop, (∃ m, W 0 m (upd H1 D (.lst []))) ∧ ∀ i m H, W i m H →
      ((Itt K a).stop i H ∧ Qd H) ∨ ((Itt K a).go i H ∧ ∃ Nx : Hp → Prop, (∀ H', Nx H' → ∃ m', m' < m ∧ W (i + 1) m' H') ∧ ∀ x H', (Itt K a).yld i H x H' → g x (wipe σ vs) H' fun σ2 H2 => wipe σ2 vs = wipe σ vs ∧ tYes σ2 H2 fun b H3 =>
        if b = true then te σ2 H3 fun y H4 => ∃ acc, H4 D = some (.lst acc) ∧ acc.length < sizeLine ∧ Nx (upd H4 D (.lst (acc ++ [y]))) else Nx H3) := by
  have rl : (refs bs).length = bs.length := by unfold refs; rw [List.length_map]
  refine lc_it (walk_tup (xs := refs bs)) (fun i H' => Same H1 H' ∧ ∃ cs : List B3, H' D = some (.lst (refs cs)) ∧ (∀ c ∈ cs, H1 c.1 = none ∧ H' c.1 = some (.lst [.str c.2.1, .str c.2.2])) ∧ cs.map (·.2) = (bs.map (·.2)).take i) ?_ ?_ ?_ ?_
  · exact ⟨same_upd hD, [], upd_same, (fun _ h => nomatch h), rfl⟩
  · rintro i H' _ ⟨s, _⟩
    exact .inl (.inl (s _ _ h1))
  · rintro i v H8 H7 hi ⟨s7, cs, d7, p7, m7⟩ ⟨rfl, e2⟩
    obtain ⟨c, hc, rfl⟩ := at_map (show (bs.map fun b => V.ref b.1)[i]? = some v from e2)
    have mc := List.mem_of_getElem? hc
    refine hs c H7 _ mc s7 fun L hL => ?_
    have nDL : D ≠ L := ne_of_none d7 hL
    have cl : cs.length ≤ 1000 := by
      have := congrArg List.length m7
      rw [List.length_map, List.length_take, List.length_map] at this
      omega
    refine ⟨_, (upd_ne nDL).trans d7, (by show (cs.map _).length < sizeLine; rw [List.length_map]; exact small1000 cl), fun x o e => ?_, cs ++ [(L, c.2)], ?_, ?_, ?_⟩
    · rw [upd_ne (ne_of_none e hD)]
      exact same_upd hL _ _ (s7 _ _ e)
    · rw [upd_same]
      show some (HO.lst (cs.map _ ++ [V.ref L])) = some (HO.lst ((cs ++ [(L, c.2)]).map _))
      rw [List.map_append]
      rfl
    · intro c' hc'
      rcases List.mem_append.mp hc' with hc' | hc'
      · have n1 : c'.1 ≠ D := fun z => by
          have e1 := (p7 c' hc').2
          rw [z, d7] at e1
          have e1 := HO.lst.inj (Option.some.inj e1)
          match cs, e1 with
          | x :: r, e1 => cases e1
        refine ⟨(p7 c' hc').1, ?_⟩
        rw [upd_ne n1]
        exact same_upd hL _ _ (p7 c' hc').2
      · rw [List.mem_singleton.mp hc']
        refine ⟨s7.free hL, ?_⟩
        rw [upd_ne (Ne.symm nDL), upd_same]
    · rw [List.map_append, m7, List.take_add_one, List.getElem?_map, hc]
      rfl
  · rintro H7 ⟨s7, cs, d7, p7, m7⟩
    refine hd H7 cs s7 d7 p7 ?_
    rw [m7]
    refine List.take_of_length_le ?_
    rw [List.length_map, rl]
    exact Nat.le_refl _
def pairsD (ps : List (Str × Str)) : PyData := .list (ps.map fun p => .list [.str p.1, .str p.2])
theorem dp_lists {K : PySem.W.Frag} {H : Hp} {a : Addr} {cs : List B3} (h1 : H a = some (.lst (refs cs))) (h2 : ∀ c ∈ cs, H c.1 = some (.lst [.str c.2.1, .str c.2.2])) : Dp K H (.ref a) (pairsD (cs.map (·.2))) := by
  unfold pairsD
  rw [List.map_map]
  exact .lst (.inl (.inl h1)) (dpAll_map _ _ fun b hb => .lst (.inl (.inl (h2 b hb))) (.cons (.str _) (.cons (.str _) .nil)))
theorem lay_lists : ∀ {ps : List (Str × Str)}, (∀ p ∈ ps, Good p.1 ∧ Good p.2) → PyData.canLayAll0 (ps.map fun p => .list [.str p.1, .str p.2]) = true
  | [], _ => by simp [PyData.canLayAll0]
  | p :: ps, h => by
    have h1 : PyData.strOk p.1 = true := (h p List.mem_cons_self).1
    have h2 : PyData.strOk p.2 = true := (h p List.mem_cons_self).2
    simp [PyData.canLayAll0, PyData.canLay0, h1, h2, lay_lists (ps := ps) fun y hy => h y (List.mem_cons_of_mem _ hy)]
theorem dep_lists : ∀ ps : List (Str × Str), PyData.depthAll (ps.map fun p => .list [.str p.1, .str p.2]) ≤ 1
  | [] => by simp [PyData.depthAll]
  | p :: ps => by
    have := dep_lists ps
    simp only [List.map_cons, PyData.depthAll, PyData.depth]
    omega
/-! ### what is told is new -/
def spHistN (K : PySem.W.Frag) : Sp := fun vs H Q _ => ∃ (a sv r e : Addr) (ps : List (Str × Str)) (svd row elders : List Str), vs = [.ref a, .ref sv, .ref r, .ref e] ∧ FrAt H a ps ∧ ps.length ≤ 1000 ∧ Irr ps ∧ RowAt H sv svd ∧ RowAt H r row ∧ ButKeeps K H e elders ∧ InLine (svd ++ row) elders ∧ (svd ++ row).Nodup ∧ svd.length + row.length ≤ 60 ∧ elders.length ≤ 60 ∧
  ∀ T H', Same H H' → ToldAt H' T ps elders svd row → (∀ wd u, TupAt H' T [.str wd, .ref u] → H u = none) → Q (.ref T) H'
theorem tup_inj {H : Hp} {T : Addr} {xs ys : List V} (h : TupAt H T xs) (k : TupAt H T ys) : xs = ys := by
  obtain ⟨o, h1, h2⟩ := h
  obtain ⟨o', k1, k2⟩ := k
  have e := h2.symm.trans k2
  cases e
  rfl
def SeenNew (H H' : Hp) (T : Addr) : Prop := (∀ x, TupAt H' T [.str "deeds", .ref x] → H x = none) ∧ ∀ U w p, TupAt H' T [.str "none", .ref U] → TupAt H' U [w, .ref p] → H p = none
def spSeenN (C : Addr) : Sp := fun vs H Q E => ∃ (a sv p : Addr) (ps : List (Str × Str)) (gone : List Str) (qs : List LS), vs = [.ref a, .ref sv, .ref p] ∧ FrAt H a ps ∧ ps.length ≤ 1000 ∧ Irr ps ∧ RowAt H sv gone ∧ OutX H p qs ∧ (∀ q ∈ qs, SightX H q) ∧ qs ≠ [] ∧ qs.length ≤ 100 ∧ (∀ q ∈ qs, gone.length + q.2.2.2.length ≤ 60) ∧
  (badS gone (0, []) 0 (qs.map sgOf) = none → ∀ T H', Same H H' → SeenAt H' T ps (partsS gone (qs.map sgOf)) → SeenNew H H' T → Q (.ref T) H') ∧
  (∀ k, badS gone (0, []) 0 (qs.map sgOf) = some k → ∀ d H', Same H H' → H d = none → H' d = some (.xd [("number", .int (k : Nat))]) → E (.ref C) (some d) H')
/-! ### what is told, shown either way -/
def ToldL (H : Hp) (u : Addr) (ps : List (Str × Str)) (elders svd row : List Str) : Prop :=
  (leftL ps elders svd row = [] ∧ ∃ ds : List LD, H u = some (.lst (refsD ds)) ∧ DeedsAt H ds ∧ ds.map (·.2) = (trace ps (stayF elders none) svd svd.length row).1.reverse) ∨
  (leftL ps elders svd row ≠ [] ∧ ∃ rs : List LR, H u = some (.lst (refsR rs)) ∧ ReasonsAt H rs ∧ rs.map (fun q => q.2.2) = (leftL ps elders svd row).map (fun x => (x, reasonOf ps (svd ++ row) svd.length (leftL ps elders svd row ++ elders) x)))
theorem ToldL.same {H H' : Hp} {u : Addr} {ps : List (Str × Str)} {elders svd row : List Str} (s : Same H H') (h : ToldL H u ps elders svd row) : ToldL H' u ps elders svd row := by
  rcases h with ⟨h0, ds, h2, h3, h4⟩ | ⟨h0, rs, h2, h3, h4⟩
  · exact .inl ⟨h0, ds, s _ _ h2, h3.same s, h4⟩
  · exact .inr ⟨h0, rs, s _ _ h2, (fun q hq => (h3 q hq).same s), h4⟩
theorem ToldL.lst {H : Hp} {u : Addr} {ps : List (Str × Str)} {olds gn st : List Str} (irr : Irr ps) (nd : (gn ++ st).Nodup) (sub : olds.Sublist (gn ++ st)) (ln : st.length + 2 * gn.length ≤ 80) (h : ToldL H u ps olds gn st) : ∃ ys : List V, H u = some (.lst ys) ∧ ys.length ≤ 80 := by
  rcases h with ⟨h0, ds, h2, h3, h4⟩ | ⟨h0, rs, h2, h3, h4⟩
  · refine ⟨_, h2, ?_⟩
    have := deeds_len irr nd sub ln h0
    have e := congrArg List.length h4
    rw [List.length_map] at e
    have e2 : (deedsOf ps olds gn st).length = (trace ps (stayF olds none) gn gn.length st).1.reverse.length := rfl
    unfold refsD
    rw [List.length_map]
    omega
  · refine ⟨_, h2, ?_⟩
    have := (left_sub (elders := olds) irr nd).length_le
    have e := congrArg List.length h4
    rw [List.length_map, List.length_map] at e
    rw [List.length_append] at this
    unfold refsR
    rw [List.length_map]
    omega
theorem ToldAt.parts {H : Hp} {T : Addr} {ps : List (Str × Str)} {elders svd row : List Str} (h : ToldAt H T ps elders svd row) : ∃ u, TupAt H T [.str (if leftL ps elders svd row = [] then "deeds" else "none"), .ref u] ∧ ToldL H u ps elders svd row := by
  rcases h with ⟨h0, u, ds, h1, h2, h3, h4⟩ | ⟨h0, u, rs, h1, h2, h3, h4⟩
  · refine ⟨u, ?_, .inl ⟨h0, ds, h2, h3, h4⟩⟩
    rw [if_pos h0]
    exact h1
  · refine ⟨u, ?_, .inr ⟨h0, rs, h2, h3, h4⟩⟩
    rw [if_neg h0]
    exact h1
def spShHU : Sp := fun vs H Q _ => ∃ (a sv r p e : Addr) (ps : List (Str × Str)) (olds gn st : List Str), vs = [.ref a, .ref sv, .ref r, .ref p, .ref e] ∧ FrAt H a ps ∧ ps.length ≤ 1000 ∧ Irr ps ∧ RowAt H sv gn ∧ RowAt H r st ∧ RowAt H e olds ∧ (∀ x ∈ gn ++ st, NameOk x) ∧ (gn ++ st).Nodup ∧ gn.length + st.length ≤ 8 ∧ olds.Sublist (gn ++ st) ∧ ToldL H p ps olds gn st ∧
  ∀ H', Same H H' → Q (.bl (decide (leftL ps olds gn st = []))) H'
theorem shHU {vs : List V} {H : Hp} {Q : VK} {E : XK} (h : spShHU vs H Q E) : spShHB vs H Q E := by
  obtain ⟨a, sv, r, p, e, ps, olds, gn, st, rfl, ha, hl, irr, hsv, hr, he, nm, nd, ln, sub, told, q⟩ := h
  have lo := sub.length_le
  rw [List.length_append] at lo
  rcases told with ⟨h0, ds, hp, hds, eds⟩ | ⟨h0, rs, hp, hrs, ers⟩
  · have g := told_go irr nd sub h0
    have el := congrArg List.length eds
    rw [List.length_map] at el
    rw [decide_eq_true h0] at q
    have go := g.1
    rw [← eds] at go
    exact .inl ⟨a, sv, r, p, e, ps, olds, gn, st, ds, rfl, ha, hl, hsv, hr, hp, hds, hist_names nm go, he, by omega, (fun x hx => (nm x hx).good), go, q⟩
  · have pok := (told_paper irr nd sub h0 ers).1
    have el := congrArg List.length ers
    rw [List.length_map, List.length_map] at el
    have ll := (left_sub (elders := olds) irr nd).length_le
    rw [List.length_append] at ll
    rw [decide_eq_false h0] at q
    exact .inr ⟨a, p, e, .ref sv, .ref r, olds, rs, rfl, hp, hrs, pok.1, by omega, he, by omega, q⟩
def spShNU : Sp := fun vs H Q _ => ∃ (a sv r p e : Addr) (ps : List (Str × Str)) (olds gn st : List Str), vs = [.ref a, .ref sv, .ref r, .ref p, .ref e] ∧ FrAt H a ps ∧ ps.length ≤ 1000 ∧ Irr ps ∧ RowAt H sv gn ∧ RowAt H r st ∧ TupAt H e (olds.map V.str) ∧ (∀ x ∈ gn ++ st, NameOk x) ∧ (gn ++ st).Nodup ∧ gn.length + st.length ≤ 8 ∧ olds.Sublist (gn ++ st) ∧ ToldL H p ps olds gn st ∧
  ∀ H', Same H H' → Q (.bl (!decide (leftL ps olds gn st = []))) H'
theorem shNU {vs : List V} {H : Hp} {Q : VK} {E : XK} (h : spShNU vs H Q E) : spNevB vs H Q E := by
  obtain ⟨a, sv, r, p, e, ps, olds, gn, st, rfl, ha, hl, irr, hsv, hr, he, nm, nd, ln, sub, told, q⟩ := h
  have lo := sub.length_le
  rw [List.length_append] at lo
  rcases told with ⟨h0, ds, hp, hds, eds⟩ | ⟨h0, rs, hp, hrs, ers⟩
  · have g := told_go irr nd sub h0
    have el := congrArg List.length eds
    rw [List.length_map] at el
    rw [decide_eq_true h0] at q
    exact .inl ⟨.ref a, .ref sv, .ref r, .ref e, p, ds, rfl, hp, hds, by omega, q⟩
  · have pok := (told_paper irr nd sub h0 ers).1
    rw [decide_eq_false h0] at q
    exact .inr ⟨a, sv, r, p, e, ps, olds, gn, st, rs, rfl, ha, hl, hsv, hr, he, nm, nd, by omega, hp, hrs, pok, q⟩
theorem CalN.imp {P : Program} {w : World} {K : PySem.W.Frag} {mg : Str → Option Value} {base : Heap} {k : Nat} {x : Str} {ps ks : List Str} {is : List Nat} {sp sq : Sp} (C : CalN P w K mg base k x ps ks is sp) (h : ∀ vs H Q E, sq vs H Q E → sp vs H Q E) : CalN P w K mg base k x ps ks is sq := by
  obtain ⟨f, fd, F, r⟩ := C
  exact ⟨f, fd, F.imp h, r⟩
section
variable {X : Cx}
def rEqL : R2 := fun x y H Q => ∃ (a b : Addr) (xs ys : List Str), x = .ref a ∧ y = .ref b ∧ H a = some (.lst (xs.map V.str)) ∧ H b = some (.lst (ys.map V.str)) ∧ Goods xs ∧ Goods ys ∧ Q (.bl (decide (xs = ys))) H
theorem op_eqL (hu : X.A.units + 64 < cLine) : OpR X (compareOp .Eq) rEqL := by
  intro pins s σ H x y v u Q I rx ry h
  obtain ⟨a, b, xs, ys, rfl, rfl, ha, hb, g1, g2, q⟩ := h
  refine op_eqD hu pins s σ H _ _ v u Q I rx ry ⟨_, _, dp_list ha, dp_list hb, sh_list g1, sh_list g2, ?_⟩
  have e : PyData.eqv (.list (xs.map .str)) (.list (ys.map .str)) = decide (xs = ys) := by
    rw [PyData.eqv, eqv_strs]
  rw [e]
  exact q
end
/-! ### lists of what is asked -/
structure Ls5 where
  cs : List B3
  L0 : Addr
  l1 : Addr
  l2 : Addr
  l3 : Addr
structure ListA8 (H0 H : Hp) (LL : Addr) (z : Ls5) (ps : List (Str × Str)) (olds gn st : List Str) : Prop where
  eL : H LL = some (.lst [.ref z.L0, .ref z.l1, .ref z.l2, .ref z.l3])
  e0 : H z.L0 = some (.lst (refs z.cs))
  ec : ∀ c ∈ z.cs, H0 c.1 = none ∧ H c.1 = some (.lst [.str c.2.1, .str c.2.2])
  em : z.cs.map (·.2) = ps
  e1 : H z.l1 = some (.lst (olds.map V.str))
  e2 : H z.l2 = some (.lst (gn.map V.str))
  e3 : H z.l3 = some (.lst (st.map V.str))
  nL : H0 LL = none
  n0 : H0 z.L0 = none
  n1 : H0 z.l1 = none
  n2 : H0 z.l2 = none
  n3 : H0 z.l3 = none
theorem ListA8.keep {H0 H H' : Hp} {LL : Addr} {z : Ls5} {ps : List (Str × Str)} {olds gn st : List Str} (k : ∀ a o, H a = some o → H0 a = none → H' a = some o) (h : ListA8 H0 H LL z ps olds gn st) : ListA8 H0 H' LL z ps olds gn st :=
  ⟨k _ _ h.eL h.nL, k _ _ h.e0 h.n0, fun c hc => ⟨(h.ec c hc).1, k _ _ (h.ec c hc).2 (h.ec c hc).1⟩, h.em, k _ _ h.e1 h.n1, k _ _ h.e2 h.n2, k _ _ h.e3 h.n3, h.nL, h.n0, h.n1, h.n2, h.n3⟩
theorem ListA8.same {H0 H H' : Hp} {LL : Addr} {z : Ls5} {ps : List (Str × Str)} {olds gn st : List Str} (s : Same H H') (h : ListA8 H0 H LL z ps olds gn st) : ListA8 H0 H' LL z ps olds gn st := h.keep fun _ _ e _ => s _ _ e
theorem ListA8.fr {H0 H : Hp} {LL : Addr} {z : Ls5} {ps : List (Str × Str)} {olds gn st : List Str} (h : ListA8 H0 H LL z ps olds gn st) : FrAt H z.L0 ps := ⟨z.cs, .inr h.e0, fun c hc => .inr (h.ec c hc).2, h.em.symm⟩
def listsD (ps : List (Str × Str)) (olds gn st : List Str) : PyData := .list [pairsD ps, strsD olds, strsD gn, strsD st]
theorem ListA8.dp {K : PySem.W.Frag} {H0 H : Hp} {LL : Addr} {z : Ls5} {ps : List (Str × Str)} {olds gn st : List Str} (h : ListA8 H0 H LL z ps olds gn st) : Dp K H (.ref LL) (listsD ps olds gn st) := by
  have := dp_lists (K := K) h.e0 fun c hc => (h.ec c hc).2
  rw [h.em] at this
  exact .lst (.inl (.inl h.eL)) (.cons this (.cons (dp_list h.e1) (.cons (dp_list h.e2) (.cons (dp_list h.e3) .nil))))
theorem lay_lists4 {ps : List (Str × Str)} {olds gn st : List Str} (h0 : ∀ p ∈ ps, Good p.1 ∧ Good p.2) (h1 : Goods olds) (h2 : Goods gn) (h3 : Goods st) : (listsD ps olds gn st).canLay0 = true := by
  unfold listsD pairsD strsD
  simp only [PyData.canLay0, PyData.canLayAll0, lay_lists h0, lay_strs h1, lay_strs h2, lay_strs h3, Bool.and_self]
theorem sh_lists4 {ps : List (Str × Str)} {olds gn st : List Str} (h0 : ∀ p ∈ ps, Good p.1 ∧ Good p.2) (h1 : Goods olds) (h2 : Goods gn) (h3 : Goods st) : SeqAt.shaped (listsD ps olds gn st) = true := by
  unfold SeqAt.shaped
  rw [lay_lists4 h0 h1 h2 h3, Bool.true_and]
  refine decide_eq_true ?_
  have := dep_lists ps
  have d1 := dep_strs olds
  have d2 := dep_strs gn
  have d3 := dep_strs st
  unfold listsD pairsD strsD
  simp only [PyData.depth, PyData.depthAll]
  omega
theorem eqv_lists4 {ps : List (Str × Str)} {olds gn st : List Str} (h0 : ∀ p ∈ ps, Good p.1 ∧ Good p.2) (h1 : Goods olds) (h2 : Goods gn) (h3 : Goods st) : PyData.eqv (listsD ps olds gn st) (listsD ps olds gn st) = true := SeqAt.eqv_refl _ (lay_lists4 h0 h1 h2 h3)
theorem fit_nats {ns : List Nat} (h : ∀ n ∈ ns, n ≤ 100) (hn : ns.length ≤ 100) : Fit 1 4100 (.list (ns.map fun n => .int (n : Nat))) :=
  (fit_list (n := 0) (w := 40) (m := 100) (fun d hd => by
    obtain ⟨x, hx, rfl⟩ := List.mem_map.mp hd
    have := h x hx
    exact fit_int (by omega)) (by rw [List.length_map]; exact hn)).mono (Nat.le_refl _) (by decide)
theorem dp_nats {K : PySem.W.Frag} {H : Hp} {a : Addr} {ns : List Nat} (h : H a = some (.lst (intsV ns))) : Dp K H (.ref a) (.list (ns.map fun n => .int (n : Nat))) := .lst (.inl (.inl h)) (dpAll_map _ _ fun n _ => .int _)
theorem lay_nats : ∀ ns : List Nat, PyData.canLayAll0 (ns.map fun n => .int (n : Nat)) = true
  | [] => by simp [PyData.canLayAll0]
  | n :: r => by simp [PyData.canLayAll0, PyData.canLay0, lay_nats r]
theorem times_le {ps : List (Str × Str)} {olds gn st : List Str} {x : Str} {n : Nat} : (∀ m ∈ timesL ps olds gn st x n, m < n) ∧ (timesL ps olds gn st x n).length ≤ n := by
  unfold timesL
  refine ⟨fun m hm => List.mem_range.mp (List.mem_filter.mp hm).1, ?_⟩
  have := List.length_filter_le (fun m => decide (leftAt ps olds gn st x m = [])) (List.range n)
  rw [List.length_range] at this
  exact this
theorem ToldAt.upd_ {H : Hp} {T l : Addr} {ys : List V} {o' : HO} {ps : List (Str × Str)} {elders svd row : List Str} (hl : H l = some (.lst ys)) (ne : ∀ wd u, TupAt H T [.str wd, .ref u] → u ≠ l) (h : ToldAt H T ps elders svd row) : ToldAt (upd H l o') T ps elders svd row := by
  rcases h with ⟨h0, u, ds, h1, h2, h3, h4⟩ | ⟨h0, u, rs, h1, h2, h3, h4⟩
  · exact .inl ⟨h0, u, ds, h1.upd_ hl, (upd_ne (ne _ _ h1)).trans h2, fun q hq => (h3 q hq).upd_ hl, h4⟩
  · exact .inr ⟨h0, u, rs, h1.upd_ hl, (upd_ne (ne _ _ h1)).trans h2, fun q hq => (h3 q hq).upd_ hl, h4⟩
theorem two_bad {gn st : List Str} (nd : (gn ++ st).Nodup) : badS gn (0, []) 0 [(0, []), (gn.length, st)] = none := by
  have c1 : canS gn (0, []) (0, []) = true := canS_iff.mpr ⟨Nat.le_refl _, Nat.zero_le _, by simp, rfl⟩
  have c2 : canS gn (0, []) (gn.length, st) = true := canS_iff.mpr ⟨Nat.zero_le _, Nat.le_refl _, by show (gn.take gn.length ++ st).Nodup; rw [List.take_length]; exact nd, rfl⟩
  show (if canS gn (0, []) (0, []) = true then (if canS gn (0, []) (gn.length, st) = true then none else some 1) else some 0) = none
  rw [if_pos c1, if_pos c2]
theorem two_parts {gn st : List Str} : partsS gn [(0, []), (gn.length, st)] = [([], [], []), (gn, st, [])] := by
  show [((gn.take 0).drop 0, ([] : List Str), ([] : List Str)), ((gn.take gn.length).drop 0, st, [])] = _
  rw [List.take_length]
  rfl
theorem SeenAt.same {H H' : Hp} {T : Addr} {ps : List (Str × Str)} {pts : List Pt} (s : Same H H') (h : SeenAt H T ps pts) : SeenAt H' T ps pts := by
  rcases h with ⟨p, hs, h1, h2, h3, h4⟩ | ⟨i, pt, U, p, rs, h1, h2, h3, h4, h5, h6, h7, h8⟩
  · exact .inl ⟨p, hs, h1.same s, s _ _ h2, h3, fun i q pt a b => by
      obtain ⟨z1, z2, z3, z4⟩ := h4 i q pt a b
      exact ⟨z1, s _ _ z2, z3.same s, z4⟩⟩
  · exact .inr ⟨i, pt, U, p, rs, h1.same s, h2.same s, h3, h4, h5, s _ _ h6, ReasonsAt.same' s h7, h8⟩
/-- the list that is told, and where -/
theorem SeenAt.spot {H0 H : Hp} {T : Addr} {ps : List (Str × Str)} {pts : List Pt} (h : SeenAt H T ps pts) (new : SeenNew H0 H T) (n : Nat) (h1 : pts.length ≤ n) (h2 : ∀ pt ∈ pts, (leftL ps pt.2.2 pt.1 pt.2.1).length ≤ n) : ∃ (p : Addr) (ys : List V), H0 p = none ∧ H p = some (.lst ys) ∧ ys.length ≤ n ∧ ((∃ x, TupAt H T [x, .ref p]) ∨ ∃ U x y, TupAt H T [x, .ref U] ∧ TupAt H U [y, .ref p]) := by
  rcases h with ⟨p, hs, k1, k2, k3, k4⟩ | ⟨i, pt, U, p, rs, k1, k2, k3, k4, k5, k6, k7, k8⟩
  · exact ⟨p, _, new.1 p k1, k2, by rw [List.length_map]; omega, .inl ⟨_, k1⟩⟩
  · refine ⟨p, _, new.2 U _ p k1 k2, k6, ?_, .inr ⟨U, _, _, k1, k2⟩⟩
    have e := congrArg List.length k8
    rw [List.length_map, List.length_map] at e
    have := h2 pt (List.mem_of_getElem? k3)
    unfold refsR
    rw [List.length_map]
    omega
theorem alk_bools {H : Hp} {n : Nat} {a b : Addr} {bs : List Bool} (h1 : H a = some (.lst (bs.map V.bl))) (h2 : H b = some (.lst (bs.map V.bl))) (hz : bs.length ≤ 1000) : Alk H (n + 2) (.ref a) (.ref b) :=
  .inr (.inl ⟨a, b, _, _, rfl, rfl, h1, h2, rfl, by rw [List.length_map]; exact hz, fun i u v hu hv => by
    rw [hu] at hv
    cases hv
    obtain ⟨c, _, rfl⟩ := at_map hu
    exact alk_bl c⟩)
end Lk
set_option maxRecDepth 100000
set_option maxHeartbeats 4000000
namespace Lk
open PySem PySem.Spec PyProof.Rows L2
def topS (i : Nat) : Stmt := PySem.Challenge.pw_letinrow_k38_lines_asked_by_names.main.body.getD i (.Pass ⟨0, 0, 0, 0⟩)
section
variable {P : Program} {w : World} {K : PySem.W.Frag} {mg : Str → Option Value} {base : Heap}
/-! ### _law_take -/
abbrev sTake : Stmt := topS 52
theorem scTake : FnScope ["_law_box_here", "_law_many", "_law_found", "_law_blend"] ["_law_box_here", "_law_many"] (defScope sTake) := ⟨rfl, rfl, rfl, by decide +kernel, rfl, by decide +kernel, by decide +kernel⟩
theorem ok_take {f : Addr} {fd : FuncData} (F : Fun K "_law_take" "_law_take" sTake f fd) : FnOk P w K mg base CX0 1 f fd ["_law_box_here", "_law_many"] spTake := by
  refine fok F scTake (fun vs H Q E h => ?_) (fun cdv A outer s H vs Q E hr h => ?_)
  · obtain ⟨b, many, rfl, _⟩ := h
    rfl
  obtain ⟨b, many, rfl, ⟨x, y, z, hb⟩, h0, h1, q⟩ := h
  refine ⟨_, pss_cons (ps_if (pt_cmpR op_gt (pe_ix ix_list (pv 0) pe_int (fun _ _ => rfl)) pe_int (nomark _))
      (pss_cons (ps_set (i := 2) scTake.nd rfl (.inl rfl) (pe_op op_mod (pe_ix ix_list (pv 0) pe_int (fun _ _ => rfl)) (pv 1)))
      (pss_cons (ps_asg (pe_op op_fdiv (pe_ix ix_list (pv 0) pe_int (fun _ _ => rfl)) (pv 1)) (pg_sub (pv 0) pe_int set_list))
      (pss_one (ps_ret (pv 2))))) pss_nil)
    (pss_cons (ps_asg (pe_op op_add (pe_ix ix_list (pv 0) pe_int (fun _ _ => rfl)) pe_int) (pg_sub (pv 0) pe_int set_list))
    (pss_cons (ps_set (i := 3) scTake.nd rfl (.inl rfl) (pe_op op_mod (pe_op op_add (pe_ix ix_list (pv 0) pe_int (fun _ _ => rfl)) (pe_op op_mul pe_int (pe_ix ix_list (pv 0) pe_int (fun _ _ => rfl)))) pe_int))
    (pss_cons (ps_set (i := 3) scTake.nd rfl (.inl rfl) (pe_op op_mod (pe_op op_add (pe_op op_add (pe_op op_mul (pv 3) (pv 3)) (pe_op op_mul pe_int (pe_ix ix_list (pv 0) pe_int (fun _ _ => rfl)))) pe_int) pe_int))
    (pss_cons (ps_set (i := 3) scTake.nd rfl (.inl rfl) (pe_op op_mod (pe_op op_add (pe_op op_mul (pv 3) (pe_op op_add (pe_op op_fdiv (pv 3) pe_int) pe_int)) (pe_ix ix_list (pv 0) pe_int (fun _ _ => rfl))) pe_int))
    (pss_one (ps_ret (pe_op op_mod (pe_op op_fdiv (pv 3) pe_int) (pv 1)))))))), ?_⟩
  have hL : SqL K H b [.int x, .int y, .int z] := .inl (.inl hb)
  refine ⟨.ref b, rfl, b, _, 0, _, rfl, rfl, hL, atI_nat (j := 0) rfl, _, _, rfl, rfl, _, rfl, ?_⟩
  refine ite2 (fun c => ?_) (fun c => ?_)
  · refine ⟨.ref b, rfl, b, _, 0, _, rfl, rfl, hL, atI_nat (j := 0) rfl, _, rfl, _, _, rfl, rfl, h0, ?_⟩
    refine ⟨.ref b, rfl, b, _, 0, _, rfl, rfl, hL, atI_nat (j := 0) rfl, _, rfl, _, _, rfl, rfl, ⟨h0, h1⟩, ?_⟩
    refine ⟨.ref b, rfl, b, _, 0, 0, rfl, rfl, hb, rfl, ?_⟩
    exact ⟨_, rfl, q _ _ Oth.upd ⟨_, _, _, upd_same⟩ (Int.emod_nonneg _ (by omega)) (Int.emod_lt_of_pos _ h0)⟩
  · refine ⟨.ref b, rfl, b, _, 2, _, rfl, rfl, hL, atI_nat (j := 2) rfl, _, _, rfl, rfl, ?_⟩
    refine ⟨.ref b, rfl, b, _, 2, 2, rfl, rfl, hb, rfl, ?_⟩
    have hU : upd H b (.lst ([.int x, .int y, .int z].set 2 (.int (z + 1)))) b = some (.lst [.int x, .int y, .int (z + 1)]) := upd_same
    have hL2 : SqL K (upd H b (.lst ([.int x, .int y, .int z].set 2 (.int (z + 1))))) b [.int x, .int y, .int (z + 1)] := .inl (.inl hU)
    refine ⟨.ref b, rfl, b, _, 1, _, rfl, rfl, hL2, atI_nat (j := 1) rfl, .ref b, rfl, b, _, 2, _, rfl, rfl, hL2, atI_nat (j := 2) rfl, _, _, rfl, rfl, .inl (by decide), _, _, rfl, rfl, _, _, rfl, rfl, (by show (0 : Int) < 2305843009213693951; decide), ?_⟩
    generalize hm1 : (y + 1442695040888963407 * (z + 1)) % 2305843009213693951 = m1
    have b1 : 0 ≤ m1 ∧ m1 < 2305843009213693951 := by
      rw [← hm1]
      exact ⟨Int.emod_nonneg _ (by decide), Int.emod_lt_of_pos _ (by decide)⟩
    refine ⟨_, rfl, _, rfl, _, _, rfl, rfl, .inl ⟨by omega, by omega⟩, .ref b, rfl, b, _, 2, _, rfl, rfl, hL2, atI_nat (j := 2) rfl, _, _, rfl, rfl, .inl (by decide), _, _, rfl, rfl, _, _, rfl, rfl, _, _, rfl, rfl, (by show (0 : Int) < 2305843009213693921; decide), ?_⟩
    generalize hm2 : (m1 * m1 + 39373 * (z + 1) + 7) % 2305843009213693921 = m2
    have b2 : 0 ≤ m2 ∧ m2 < 2305843009213693921 := by
      rw [← hm2]
      exact ⟨Int.emod_nonneg _ (by decide), Int.emod_lt_of_pos _ (by decide)⟩
    refine ⟨_, rfl, _, rfl, _, _, rfl, rfl, ⟨by decide, by decide⟩, _, _, rfl, rfl, _, _, rfl, rfl, .inl ⟨by omega, by omega⟩, .ref b, rfl, b, _, 2, _, rfl, rfl, hL2, atI_nat (j := 2) rfl, _, _, rfl, rfl, _, _, rfl, rfl, (by show (0 : Int) < 2305843009213693907; decide), ?_⟩
    generalize (m2 * (m2 / 65536 + 3) + (z + 1)) % 2305843009213693907 = m3
    refine ⟨_, rfl, _, _, rfl, rfl, ⟨by decide, by decide⟩, _, rfl, _, _, rfl, rfl, h0, ?_⟩
    exact q _ _ Oth.upd ⟨_, _, _, upd_same⟩ (Int.emod_nonneg _ (by omega)) (Int.emod_lt_of_pos _ h0)
/-! ### _law_box -/
abbrev sBox : Stmt := topS 51
theorem scBox : FnScope ["_law_cells_here", "_law_k", "_law_cell"] ["_law_cells_here", "_law_k"] (defScope sBox) := ⟨rfl, rfl, rfl, by decide +kernel, rfl, by decide +kernel, by decide +kernel⟩
theorem ok_box {f : Addr} {fd : FuncData} (B : Blt mg) (F : Fun K "_law_box" "_law_box" sBox f fd) : FnOk P w K mg base CX0 1 f fd ["_law_cells_here", "_law_k"] spBox := by
  refine fok F scBox (fun vs H Q E h => ?_) (fun cdv A outer s H vs Q E hr h => ?_)
  · obtain ⟨a, ns, k, rfl, _⟩ := h
    rfl
  obtain ⟨a, ns, k, rfl, ha, hk, hk2, q⟩ := h
  refine ⟨_, pss_cons (ps_set (i := 2) scBox.nd rfl (.inl rfl) (pe_ix ix_list (pv 0) (pv 1) (fun _ _ => rfl)))
    (pss_one (ps_ret (pe_lst (pa_cons (pe_op op_mul (pe_callB call_abs (by rfl) B.abs (by decide +kernel) (pa_cons (pv 2) pa_nil)) (pe_callTy call_int1 (by rfl) B.int (by decide +kernel) (pa_cons (pe_cmpR op_ge (pe_callB call_abs (by rfl) B.abs (by decide +kernel) (pa_cons (pv 2) pa_nil)) (pe_op op_pow pe_int pe_int) (nomark _)) pa_nil)))
      (pa_cons (pe_op op_add (pe_op op_add (pe_op op_mod (pv 2) pe_int) (pe_op op_mul pe_int (pv 1))) pe_int) (pa_cons pe_int pa_nil)))))), ?_⟩
  obtain ⟨c, hc⟩ : ∃ c, ns[k]? = some c := ⟨ns[k], List.getElem?_eq_getElem hk⟩
  refine ⟨.ref a, rfl, .int k, rfl, a, _, k, .int c, rfl, rfl, .inl (.inl ha), atI_nat (ix_map hc), ?_⟩
  refine ⟨_, rfl, _, rfl, _, rfl, _, rfl, _, _, rfl, rfl, ⟨by decide, by decide, by decide⟩, _, _, rfl, rfl, .inr ⟨_, rfl, _, _, rfl, rfl, .inr (bit01 _), ?_⟩⟩
  refine ⟨_, rfl, _, _, rfl, rfl, (by show (0 : Int) < 2305843009213693951; decide), _, rfl, _, _, rfl, rfl, .inl (by decide), _, _, rfl, rfl, _, _, rfl, rfl, (by show 3 ≤ sizeLine; decide), fun p hp => ?_⟩
  exact q p _ (same_upd hp) hp ⟨_, _, _, upd_same⟩
/-! ### _law_cells -/
abbrev sCells : Stmt := topS 53
theorem scCells : FnScope ["_law_script", "_law_utmost", "_law_cells_here", "_law_k", "_law_cell"] ["_law_script", "_law_utmost"] (defScope sCells) := ⟨rfl, rfl, rfl, by decide +kernel, rfl, by decide +kernel, by decide +kernel⟩
theorem ok_cells {f : Addr} {fd : FuncData} (B : Blt mg) (F : Fun K "_law_cells" "_law_cells" sCells f fd) : FnOk P w K mg base CX0 1 f fd ["_law_script", "_law_utmost"] (spCells K) := by
  refine fok F scCells (fun vs H Q E h => ?_) (fun cdv A outer s H vs Q E hr h => ?_)
  · obtain ⟨a, ns, k, rfl, _⟩ := h
    rfl
  obtain ⟨a, ns, u, rfl, ha, hn, h0, h3, q⟩ := h
  refine ⟨_, pss_cons (ps_set (i := 2) scCells.nd rfl (.inl rfl) (pe_orT (pe_callTy call_list_of (by rfl) B.list (by decide +kernel) (pa_cons (pe_slice sl_list (pv 0) po_none (po_some (pv 1))) pa_nil)) (pe_one (pe_lst (pa_cons pe_int pa_nil)))))
    (pss_cons (ps_for PassesOwn.never rfl (pi_enum (by rfl) B.enumerate (pa_cons (pe_slice sl_list (pv 0) (po_some (pv 1)) (po_some pe_int)) pa_nil))
        (pg_tup rfl (pgs_cons (pg_name (i := 3) scCells.nd rfl (.inl rfl)) (pgs_cons (pg_name (i := 4) scCells.nd rfl (.inl rfl)) pgs_nil)))
      (pss_one (ps_asg (pe_op op_add (pe_ix ix_list (pv 2) (pe_op op_mod (pv 3) (pv 1)) (fun _ _ => rfl)) (pe_op op_mul (pv 4) (pe_op op_add (pv 3) pe_int))) (pg_sub (pv 2) (pe_op op_mod (pv 3) (pv 1)) set_list))))
    (pss_one (ps_ret (pv 2)))), ?_⟩
  -- what follows once cells stand at c
  have rest : ∀ (c : Addr) (ms : List Int) (H1 : Hp), Same H H1 → H c = none → H1 c = some (.lst (ms.map V.int)) → 0 < ms.length → ms.length ≤ 3 → (u < ns.length → ms.length = u) → ∀ (D : Ends) , D.rt = Q → 
      (tSeq (tFor (iEnum K (tCons (tSl (rSlL K) (tVar 0) (tPart (tVar 1)) (tPart (tC (.int 63)))) tNil)) (gTup K 2 (gCons (gName 3) (gCons (gName 4) gNil))) (tAsg (tOp (rI0 fun i j => .int (i + j)) (tOp (rIxL K) (tVar 2) (tOp (rI (fun _ j => 0 < j) fun i j => .int (i % j)) (tVar 3) (tVar 1))) (tOp (rI CMul fun i j => .int (i * j)) (tVar 4) (tOp (rI0 fun i j => .int (i + j)) (tVar 3) (tC (.int 2))))) (gSub (tVar 2) (tOp (rI (fun _ j => 0 < j) fun i j => .int (i % j)) (tVar 3) (tVar 1)) rSetL))) (tRet (tVar 2))) D [some (.ref a), some (.int u), some (.ref c), none, none] H1 := by
    intro c ms H1 s1 nc hc m0 m3 mu D hD
    refine ⟨.ref a, rfl, _, rfl, u, rfl, 63, rfl, a, _, rfl, s1.seq ha, fun p hp => ?_⟩
    have s2 : Same H1 (upd H1 p (.lst (cutV (ns.map V.int) (some u) (some 63)))) := same_upd hp
    have npc : c ≠ p := ne_of_none hc hp
    rw [cutV_map]
    generalize hr2 : cutL ns (some (u : Int)) (some 63) = r2
    refine ⟨p, r2.map V.int, rfl, .inl (.inl upd_same), ?_⟩
    refine for_it (walk_enum (xs := r2.map V.int)) (fun i σ H3 => ∃ (y3 y4 : Option V) (ms' : List Int), σ = [some (.ref a), some (.int u), some (.ref c), y3, y4] ∧ Same H H3 ∧ H3 p = some (.lst (r2.map V.int)) ∧ H3 c = some (.lst (ms'.map V.int)) ∧ ms'.length = ms.length) ?_ ?_ ?_ ?_
    · exact ⟨none, none, ms, rfl, s1.trans (same_upd hp), upd_same, (upd_ne npc).trans hc, rfl⟩
    · rintro i σ H3 _ ⟨y3, y4, ms', rfl, e1, e2, e3, e4⟩
      exact .inl (.inl e2)
    · rintro i x σ H3 H4 hi ⟨y3, y4, ms', rfl, e1, e2, e3, e4⟩ ⟨T, x1, x2, rfl, nT, rfl, f1, f2⟩
      cases f1
      obtain ⟨z, hz, rfl⟩ := at_map f2
      rw [List.length_map] at hi
      have hun : u < ns.length := cutL_has (k := u) (hi := some 63) (by rw [hr2]; omega)
      have hml := mu hun
      have nTc : c ≠ T := ne_of_none e3 nT
      have nTp : p ≠ T := ne_of_none e2 nT
      refine ⟨T, _, rfl, .inl (.inl upd_same), rfl, _, _, rfl, _, _, rfl, rfl, ?_⟩
      have hlt : i % u < ms'.length := by
        rw [e4, hml]
        exact Nat.mod_lt _ h0
      have e3' : upd H3 T (.tup [.int (i : Nat), .int z]) c = some (.lst (ms'.map V.int)) := (upd_ne nTc).trans e3
      have eim : ((i : Int) % (u : Int)) = ((i % u : Nat) : Int) := (Int.natCast_emod i u).symm
      have hi2 : i < 63 := by
        have q1 := cutL_le ns (some (u : Int)) (some 63)
        rw [hr2] at q1
        omega
      refine ⟨.ref c, rfl, _, rfl, _, rfl, _, _, rfl, rfl, (by show (0 : Int) < u; omega), c, _, _, .int ms'[i % u], rfl, rfl, .inl (.inl e3'), (by rw [eim]; exact atI_nat (ix_map (List.getElem?_eq_getElem hlt))), ?_⟩
      refine ⟨_, rfl, _, rfl, _, _, rfl, rfl, _, _, rfl, rfl, .inr ⟨by omega, by omega⟩, _, _, rfl, rfl, ?_⟩
      refine ⟨.ref c, rfl, _, rfl, _, rfl, _, _, rfl, rfl, (by show (0 : Int) < u; omega), c, _, _, i % u, rfl, rfl, e3', ?_, ?_⟩
      · rw [eim, List.length_map]
        unfold ixN
        rw [if_pos (by omega), if_pos (by omega), Int.toNat_natCast]
      · refine ⟨_, _, ms'.set (i % u) (ms'[i % u] + z * ((i : Int) + 2)), rfl, fun b o e => ?_, ?_, ?_, ?_⟩
        · rw [upd_ne (ne_of_none e nc)]
          exact same_upd nT _ _ (e1 b o e)
        · rw [upd_ne (Ne.symm npc), upd_ne nTp]
          exact e2
        · rw [upd_same, ← set_map]
        · rw [List.length_set]
          exact e4
    · rintro σ H3 ⟨y3, y4, ms', rfl, e1, e2, e3, e4⟩
      refine ⟨.ref c, rfl, ?_⟩
      rw [hD]
      exact q c ms' H3 e1 nc e3 (by omega) (by omega)
  -- cells = list(script[:u]) or [0]
  refine ⟨.ref a, rfl, .int u, rfl, u, rfl, a, _, rfl, ha, fun p hp => ?_⟩
  rw [cutV_map, cutL_to]
  refine ⟨p, _, rfl, .inl (.inl (.inl upd_same)), fun l hl => ?_⟩
  have s2 : Same H (upd H p (.lst ((ns.take u).map V.int))) := same_upd hp
  have s3 := s2.trans (same_upd (o := .lst ((ns.take u).map V.int)) hl)
  refine ⟨_, .inl ⟨_, .inl (.inl upd_same), rfl⟩, ?_⟩
  refine ite2 (fun z => ?_) (fun z => ?_)
  · have hne : 0 < ns.length := by
      cases ns with
      | nil => rw [List.take_nil] at z; cases z
      | cons n r => exact Nat.succ_pos _
    refine rest l (ns.take u) _ s3 (s2.free hl) upd_same ?_ ?_ ?_ _ rfl
    · rw [List.length_take]
      omega
    · rw [List.length_take]
      omega
    · intro z
      rw [List.length_take]
      omega
  · have hne : ns.length = 0 := by
      cases ns with
      | nil => rfl
      | cons n r =>
        have e : u = (u - 1) + 1 := by omega
        rw [e, List.take_succ_cons] at z
        exact absurd rfl z
    refine ⟨(by show 1 ≤ sizeLine; decide), fun c hc => ?_⟩
    exact rest c [0] _ (s3.trans (same_upd hc)) (s3.free hc) upd_same (by decide) (by decide) (fun z => absurd z (by omega)) _ rfl
/-! ### _law_names -/
abbrev sNames : Stmt := topS 54
abbrev nNames : List Str := ["_law_box_here", "_law_many", "_law_letters", "_law_first", "_law_found", "_law_stem", "_law_step_here", "_law_few", "_law_k", "_law_cut", "_law_name", "_law_turn"]
theorem scNames : FnScope nNames ["_law_box_here", "_law_many"] (defScope sNames) := ⟨rfl, rfl, rfl, by decide +kernel, rfl, by decide +kernel, by decide +kernel⟩
theorem ok_names {f : Addr} {fd : FuncData} (B : Blt mg) (CT : Cal P w K mg base 1 "_law_take" ["_law_box_here", "_law_many"] spTake) (F : Fun K "_law_names" "_law_names" sNames f fd) : FnOk P w K mg base CX0 2 f fd ["_law_box_here", "_law_many"] spNames := by
  refine fok F scNames (fun vs H Q E h => ?_) (fun cdv A outer s H vs Q E hr h => ?_)
  · obtain ⟨b, many, rfl, _⟩ := h
    rfl
  obtain ⟨b, many, rfl, hb, hm, q⟩ := h
  refine ⟨_, pss_cons (ps_asg (pe_tup (pa_cons pe_str (pa_cons (pe_cal CT hr (pa_cons (pv 0) (pa_cons pe_int pa_nil))) (pa_cons (pe_lst pa_nil) pa_nil)))) (pg_tup rfl (pgs_cons (pg_name (i := 2) scNames.nd rfl (.inr rfl)) (pgs_cons (pg_name (i := 3) scNames.nd rfl (.inl rfl)) (pgs_cons (pg_name (i := 4) scNames.nd rfl (.inl rfl)) pgs_nil)))))
    (pss_cons (ps_set (i := 5) scNames.nd rfl (.inl rfl) (pe_join pe_str
      (pe_lc (own := [("_law_turn", 11)]) (g := gName 11) (tt := tYes) rfl scNames.nd (pi_range1 (by rfl) B.range (pa_cons (pe_cal CT hr (pa_cons (pv 0) (pa_cons pe_int pa_nil))) pa_nil)) (blkOk_by (N := nNames) (sc := defScope sNames) (by decide +kernel)) (fun _ _ _ _ _ => pg_name (i := 11) scNames.nd rfl (Or.inl rfl)) (fun _ _ _ _ _ => pts_nil)
        (fun _ _ _ _ _ => pe_ix ix_str (pv 2) (pe_cal CT hr (pa_cons (pv 0) (pa_cons pe_int pa_nil))) (fun _ _ => rfl)))))
    (pss_cons (ps_par (i := 6) (j := 7) (by rfl) scNames.nd rfl rfl (by decide) rfl rfl (pa_cons (pe_ix ix_list (pe_lst (pa_cons pe_int (pa_cons pe_int (pa_cons pe_int (pa_cons pe_int pa_nil))))) (pe_cal CT hr (pa_cons (pv 0) (pa_cons pe_int pa_nil))) (fun _ _ => rfl)) (pa_cons (pe_callTy call_int1 (by rfl) B.int (by decide +kernel) (pa_cons (pe_cmpR op_eq (pe_op op_mod (pv 3) pe_int) pe_int (nomark _)) pa_nil)) pa_nil)) (by rfl))
    (pss_cons (ps_for PassesOwn.never rfl (pi_range1 (by rfl) B.range (pa_cons (pv 1) pa_nil)) (pg_name (i := 8) scNames.nd rfl (.inl rfl))
      (pss_cons (ps_set (i := 9) scNames.nd rfl (.inl rfl) (pe_op op_sub (pe_callB call_len_str (by rfl) B.len PySem.boot_len (pa_cons (pv 5) pa_nil)) (pe_op op_mul (pv 7) (pe_op op_mod (pv 8) pe_int))))
      (pss_cons (ps_set (i := 10) scNames.nd rfl (.inl rfl) (pe_op op_add_str (pe_slice sl_str (pv 5) po_none (po_some (pv 9))) (pe_ix ix_str (pv 2) (pe_op op_mod (pe_op op_add (pv 3) (pe_op op_mul (pv 6) (pv 8))) pe_int) (fun _ _ => rfl))))
      (pss_one (ps_expr (pe_bm PySem.F.plainAttrs_list PySem.F.slot_list_insert PySem.F.type_list_insert mt_insert (pv 4) (pa_cons (pe_cal CT hr (pa_cons (pv 0) (pa_cons (pe_op op_add (pe_callB call_len_seq (by rfl) B.len PySem.boot_len (pa_cons (pv 4) pa_nil)) pe_int) pa_nil))) (pa_cons (pv 10) pa_nil))))))))
    (pss_one (ps_ret (pv 4)))))), ?_⟩
  -- letters, first, found
  refine ⟨.ref b, rfl, b, 26, rfl, hb, by decide, by decide, fun first H1 o1 b1 f0 f1 => ⟨(by show 0 ≤ sizeLine; decide), fun l hl => ?_⟩⟩
  refine ⟨(by show 3 ≤ sizeLine; decide), fun t ht => ?_⟩
  have nlb : l ≠ b := b1.ne_none hl
  have ntl : t ≠ l := fun z => by rw [z, upd_same] at ht; cases ht
  have ntb : t ≠ b := fun z => by
    rw [z, upd_ne (Ne.symm nlb)] at ht
    exact b1.ne_none ht rfl
  have nl : H l = none := o1.free nlb hl
  refine ⟨t, _, rfl, .inl (.inl upd_same), rfl, _, _, rfl, _, _, rfl, _, _, rfl, rfl, ?_⟩
  dsimp only
  generalize hH2 : upd (upd H1 l (.lst [])) t (.tup [.str (Str.ofString "abcdefghijklmnopqrstuvwxyz"), .int first, .ref l]) = H2
  have o2 : Oth b H H2 := o1.trans (fun a o n e => by
    rw [← hH2]
    exact same_upd ht _ _ (same_upd hl _ _ e))
  have b2 : IsBox H2 b := by
    rw [← hH2]
    exact (b1.same (same_upd hl)).same (same_upd ht)
  have l2 : H2 l = some (.lst []) := by
    rw [← hH2, upd_ne (Ne.symm ntl), upd_same]
  -- stem
  refine ⟨⟨_, rfl⟩, .ref b, rfl, b, 8, rfl, b2, by decide, by decide, fun n H3 o3 b3 n0 n1 => ⟨n, rfl, by omega, by omega, fun D hD => ?_⟩⟩
  have nDb : D ≠ b := b3.ne_none hD
  have l3 : H3 l = some (.lst []) := o3 _ _ nlb l2
  have nDl : l ≠ D := ne_of_none l3 hD
  refine lc_it (walk_range (lo := 0) (n := n.toNat)) (fun i H' => ∃ ys : List Str, Oth b H H' ∧ IsBox H' b ∧ H' l = some (.lst []) ∧ H' D = some (.lst (ys.map V.str)) ∧ ys.length = i ∧ ∀ y ∈ ys, IsOne y) ?_ (fun _ _ _ _ => trivial) ?_ ?_
  · refine ⟨[], fun a o na e => ?_, b3.same (same_upd hD), (upd_ne nDl).trans l3, upd_same, rfl, fun _ h => nomatch h⟩
    exact same_upd hD _ _ (o3 _ _ na (o2 _ _ na e))
  · rintro i x H4 H5 hi ⟨ys, o4, b4, l4, d4, y1, y2⟩ ⟨rfl, rfl⟩
    refine ⟨rfl, ⟨.str abc, rfl, .ref b, rfl, b, 26, rfl, b4, by decide, by decide, fun v H6 o6 b6 v0 v1 => ⟨abc, v, 97 + v.toNat, rfl, rfl, (by rw [abc_len]; decide), abc_ix v0 v1, ys.map V.str, o6 _ _ nDb d4, ?_, ?_⟩⟩⟩
    · rw [List.length_map]
      exact small1000 (by omega)
    · have s6 : ∀ a o, a ≠ D → H6 a = some o → upd H6 D (.lst (ys.map V.str ++ [.str ⟨#[97 + v.toNat]⟩])) a = some o := fun a o na e => by rw [upd_ne na]; exact e
      refine ⟨ys ++ [⟨#[97 + v.toNat]⟩], fun a o na e => ?_, ?_, s6 _ _ nDl (o6 _ _ nlb l4), ?_, ?_, ?_⟩
      · have q6 := o6 _ _ na (o4 _ _ na e)
        by_cases z : a = D
        · subst z
          have q3 := o3.free nDb hD
          rw [o2 _ _ na e] at q3
          cases q3
        · exact s6 _ _ z q6
      · obtain ⟨i1, i2, i3, e⟩ := b6
        exact ⟨i1, i2, i3, s6 _ _ (Ne.symm nDb) e⟩
      · rw [upd_same, List.map_append]
        rfl
      · rw [List.length_append, y1]
        rfl
      · intro y hy
        rcases List.mem_append.mp hy with z | z
        · exact y2 y z
        · have e : y = ⟨#[97 + v.toNat]⟩ := by simpa using z
          exact ⟨v.toNat, by omega, e⟩
  · rintro H4 ⟨ys, o4, b4, l4, d4, y1, y2⟩
    have z1 := ones_len y2
    refine ⟨_, D, ys, rfl, rfl, .inl (.inl (.inl d4)), ?_, ?_⟩
    · rw [z1]
      have z2 : (Str.ofString "").length = 0 := by decide +kernel
      rw [z2]
      omega
    have w1 := ones_flat y2
    rw [← join0] at w1
    generalize Txt.join (Str.ofString "") ys = stem at w1
    have w2 : (tlx stem).length ≤ 7 := by rw [w1.1]; omega
    have w3 : Low (tlx stem) := w1.2
    clear w1 z1
    -- step, few
    refine ⟨(by show 4 ≤ sizeLine; decide), fun p hp => ⟨.ref b, rfl, b, 4, rfl, b4.same (same_upd hp), by decide, by decide, fun v H5 o5 b5 v0 v1 => ?_⟩⟩
    obtain ⟨step, hst, hat⟩ := menu4 v0 v1
    have npb : p ≠ b := b4.ne_none hp
    have o5' : Oth b H H5 := fun a o na e => o5 _ _ na (same_upd hp _ _ (o4 _ _ na e))
    have l5 : H5 l = some (.lst []) := o5 _ _ nlb (same_upd hp _ _ l4)
    refine ⟨p, _, v, .int step, rfl, rfl, .inl (.inl (o5 _ _ npb upd_same)), hat, ?_⟩
    refine ⟨.int first, rfl, _, _, rfl, rfl, (by show (0 : Int) < 4; decide), rfl, .inr ⟨_, rfl, _, _, rfl, ?_⟩⟩
    generalize hk : (decide (V.int (first % 4) = V.int 3)) = kf
    have hf := bit2 kf
    generalize (if kf = true then 1 else 0 : Int) = few at hf
    -- the loop
    refine ⟨.int many, rfl, many, rfl, by omega, by omega, ?_⟩
    refine for_it (walk_range (lo := 0) (n := (many : Int).toNat)) (fun i σ H' => ∃ (y8 y9 y10 y11 : Option V) (names : List Str), σ = [some (.ref b), some (.int many), some (.str abc), some (.int first), some (.ref l), some (.str stem), some (.int step), some (.int few), y8, y9, y10, y11] ∧ Oth b H H' ∧ IsBox H' b ∧ H' l = some (.lst (names.map V.str)) ∧ names.length = i ∧ names.Nodup ∧ ∀ x ∈ names, NameOk x ∧ ∃ j : Nat, j < i ∧ lastC x = some (97 + ((first + step * (j : Int)) % 26).toNat)) ?_ (fun _ _ _ _ _ => trivial) ?_ ?_
    · exact ⟨_, _, _, _, [], rfl, o5', b5, l5, rfl, List.nodup_nil, fun _ h => nomatch h⟩
    · rintro i x σ H7 H6 hi ⟨y8, y9, y10, y11, names, rfl, o6, b6, l6, m1, m2, m3⟩ ⟨rfl, rfl⟩
      have hi2 : i < 26 := by omega
      have hsl : stem.length ≤ sizeLine := by rw [len_tlx]; exact small_le (by omega)
      refine ⟨_, rfl, _, rfl, hsl, _, rfl, _, rfl, _, _, rfl, rfl, (by show (0 : Int) < 3; decide), _, _, rfl, rfl, .inl ⟨by omega, by omega⟩, _, _, rfl, rfl, ?_⟩
      dsimp only
      generalize (stem.length : Int) - few * ((0 + (i : Int)) % 3) = cut
      have c0 : 0 ≤ (first + step * (0 + (i : Int))) % 26 := Int.emod_nonneg _ (by decide)
      have c1 : (first + step * (0 + (i : Int))) % 26 < 26 := Int.emod_lt_of_pos _ (by decide)
      refine ⟨_, rfl, _, rfl, cut, rfl, stem, rfl, hsl, _, rfl, _, rfl, _, rfl, _, rfl, _, _, rfl, rfl, ?_, _, _, rfl, rfl, _, _, rfl, rfl, (by show (0 : Int) < 26; decide), abc, _, _, rfl, rfl, (by rw [abc_len]; decide), abc_ix c0 c1, _, _, rfl, rfl, ?_, ?_⟩
      · rcases hst with rfl | rfl | rfl | rfl <;> exact .inl (by decide)
      · rw [len_tlx, cutS_tlx]
        have z := cutL_le (tlx stem) none (some cut)
        exact small_le (by show _ + 1 ≤ 1000; omega)
      rw [Int.zero_add] at c0 c1 ⊢
      have nok : NameOk (cutS stem none (some cut) ++ ⟨#[97 + ((first + step * (i : Int)) % 26).toNat]⟩) := name_ok w2 w3 (by omega)
      have nla := lastC_app (cutS stem none (some cut)) (97 + ((first + step * (i : Int)) % 26).toNat)
      generalize (cutS stem none (some cut) ++ ⟨#[97 + ((first + step * (i : Int)) % 26).toNat]⟩ : Str) = nm at nok nla
      have hnew : nm ∉ names := fun hm2 => by
        obtain ⟨_, j, hj, ej⟩ := m3 nm hm2
        rw [nla] at ej
        have q1 := Option.some.inj ej
        have q2 := apart hst hj hi2 first
        have q3 : 0 ≤ (first + step * (j : Int)) % 26 := Int.emod_nonneg _ (by decide)
        omega
      -- found.insert(take(box, len(found) + 1), name)
      have L6 : SqL K H6 l (names.map V.str) := .inl (.inl l6)
      refine ⟨.ref l, rfl, .inl ⟨rfl, _, L6⟩, .ref b, rfl, .ref l, rfl, l, _, rfl, .inl L6, _, _, rfl, rfl, b, _, rfl, b6, by omega, ?_, fun v H8 o8 b8 v0 v1 => ?_⟩
      · rw [List.length_map]
        omega
      have l8 : H8 l = some (.lst (names.map V.str)) := o8 _ _ nlb l6
      refine ⟨_, rfl, l, _, v, _, rfl, rfl, l8, ?_, v0, ?_, ?_⟩
      · rw [List.length_map]
        exact small1000 (by omega)
      · rw [List.length_map] at v1
        omega
      have pm := ins_perm names v.toNat nm
      refine ⟨_, _, _, _, names.take v.toNat ++ [nm] ++ names.drop v.toNat, rfl, fun a o na e => ?_, ?_, ?_, ?_, ?_, ?_⟩
      · have e8 := o8 _ _ na (o6 _ _ na e)
        rw [upd_ne (ne_of_none e nl)]
        exact e8
      · obtain ⟨i1, i2, i3, e⟩ := b8
        exact ⟨i1, i2, i3, (upd_ne (Ne.symm nlb)).trans e⟩
      · rw [upd_same, ins_map]
      · rw [pm.length_eq, List.length_cons, m1]
      · exact pm.nodup_iff.mpr (List.nodup_cons.mpr ⟨hnew, m2⟩)
      · intro x hx
        rcases List.mem_cons.mp (pm.mem_iff.mp hx) with rfl | hx
        · exact ⟨nok, i, Nat.lt_succ_self _, nla⟩
        · obtain ⟨z1, j, z2, z3⟩ := m3 x hx
          exact ⟨z1, j, Nat.lt_succ_of_lt z2, z3⟩
    · rintro σ H6 ⟨y8, y9, y10, y11, names, rfl, o6, b6, l6, m1, m2, m3⟩
      exact ⟨.ref l, rfl, q l names H6 o6 b6 nl l6 (by omega) m2 fun x hx => (m3 x hx).1⟩
/-! ### _law_pals -/
abbrev sPals : Stmt := topS 55
abbrev nPals : List Str := ["_law_box_here", "_law_pool", "_law_way", "_law_found", "_law_side", "_law_k", "_law_mine", "_law_j", "_law_fine", "_law_name"]
theorem scPals : FnScope nPals ["_law_box_here", "_law_pool"] (defScope sPals) := ⟨rfl, rfl, rfl, by decide +kernel, rfl, by decide +kernel, by decide +kernel⟩
theorem ok_pals {f : Addr} {fd : FuncData} (B : Blt mg) (CT : Cal P w K mg base 1 "_law_take" ["_law_box_here", "_law_many"] spTake) (F : Fun K "_law_pals" "_law_pals" sPals f fd) : FnOk P w K mg base CX0 2 f fd ["_law_box_here", "_law_pool"] spPals := by
  refine fok F scPals (fun vs H Q E h => ?_) (fun cdv A outer s H vs Q E hr h => ?_)
  · obtain ⟨b, l, pool, rfl, _⟩ := h
    rfl
  obtain ⟨b, l, pool, rfl, hb, hl, hnd, hn, q⟩ := h
  refine ⟨_, pss_cons (ps_par (i := 2) (j := 3) (by rfl) scPals.nd rfl rfl (by decide) rfl rfl (pa_cons (pe_cal CT hr (pa_cons (pv 0) (pa_cons pe_int pa_nil))) (pa_cons (pe_lst pa_nil) pa_nil)) (by rfl))
    (pss_cons (ps_setLc (i := 4) (own := [("_law_name", 9)]) (g := gName 9) (tt := tYes) rfl scPals.nd rfl rfl (sw_true rfl rfl rfl (by decide +kernel)) (pi_list (pv 1)) (blkOk_by (N := nPals) (sc := defScope sPals) (by decide +kernel)) (fun _ _ _ _ _ => pg_name (i := 9) scPals.nd rfl (Or.inl rfl)) (fun _ _ _ _ _ => pts_nil)
        (fun _ _ _ _ _ => pe_cal CT hr (pa_cons (pv 0) (pa_cons pe_int pa_nil))))
    (pss_cons (ps_for PassesOwn.never rfl (pi_enum (by rfl) B.enumerate (pa_cons (pv 1) pa_nil)) (pg_tup rfl (pgs_cons (pg_name (i := 5) scPals.nd rfl (.inl rfl)) (pgs_cons (pg_name (i := 6) scPals.nd rfl (.inl rfl)) pgs_nil)))
      (pss_one (ps_for PassesOwn.never rfl (pi_range1 (by rfl) B.range (pa_cons (pv 5) pa_nil)) (pg_name (i := 7) scPals.nd rfl (.inl rfl))
        (pss_cons (ps_set (i := 8) scPals.nd rfl (.inl rfl) (pe_mid (pe_ix ix_list (pe_lst (pa_cons (pe_cmpR op_eq (pe_cal CT hr (pa_cons (pv 0) (pa_cons pe_int pa_nil))) pe_int (nomark _)) (pa_cons (pe_cmpR op_eq (pe_cal CT hr (pa_cons (pv 0) (pa_cons pe_int pa_nil))) pe_int (nomark _)) (pa_cons (pe_cmpR op_gt (pe_cal CT hr (pa_cons (pv 0) (pa_cons pe_int pa_nil))) pe_int (nomark _)) pa_nil)))) (pe_op op_mod (pv 2) pe_int) (fun _ _ => rfl))))
        (pss_cons (ps_set (i := 8) scPals.nd rfl (.inl rfl) (pe_mid (pe_ifExp (pt_cmpR op_eq (pv 2) pe_int (nomark _)) (pe_cmpR op_eq (pe_ix ix_list (pv 4) (pv 5) (fun _ _ => rfl)) (pe_ix ix_list (pv 4) (pv 7) (fun _ _ => rfl)) (nomark _)) (pv 8))))
        (pss_one (ps_if (pt_val (pv 8)) (pss_one (ps_expr (pe_bm PySem.F.plainAttrs_list PySem.F.slot_list_append PySem.F.type_list_append mt_append (pv 3) (pa_cons (pe_tup (pa_cons (pe_callB (call_minS rfl) (by rfl) B.min (by decide +kernel) (pa_cons (pv 6) (pa_cons (pe_ix ix_list (pv 1) (pv 7) (fun _ _ => rfl)) pa_nil))) (pa_cons (pe_callB (call_maxS rfl) (by rfl) B.max (by decide +kernel) (pa_cons (pv 6) (pa_cons (pe_ix ix_list (pv 1) (pv 7) (fun _ _ => rfl)) pa_nil))) pa_nil))) pa_nil)))) pss_nil)))))))
    (pss_one (ps_ret (pe_callTy call_tuple_of (by rfl) B.tuple (by decide +kernel) (pa_cons (pe_callB (cr_sortedTT hr.units) (by rfl) B.sorted (by decide +kernel) (pa_cons (pv 3) pa_nil)) pa_nil)))))), ?_⟩
  have nlb : l ≠ b := hb.ne_strs hl
  -- way, found
  refine ⟨.ref b, rfl, b, 6, rfl, hb, by decide, by decide, fun way H1 o1 b1 w0 w1 => ⟨(by show 0 ≤ sizeLine; decide), fun fa hfa => ⟨_, _, rfl, ?_⟩⟩⟩
  have nfb : fa ≠ b := b1.ne_none hfa
  have nf : H fa = none := o1.free nfb hfa
  have l1 : H1 l = some (.lst (pool.map V.str)) := o1 _ _ nlb hl
  have nlf : l ≠ fa := ne_of_none l1 hfa
  have l2 : upd H1 fa (.lst []) l = some (.lst (pool.map V.str)) := (upd_ne nlf).trans l1
  have b2 : IsBox (upd H1 fa (.lst [])) b := b1.same (same_upd hfa)
  have o2 : Oth b H (upd H1 fa (.lst [])) := o1.trans (Oth.of (same_upd hfa))
  have f2 : upd H1 fa (.lst []) fa = some (.lst []) := upd_same
  dsimp only
  generalize upd H1 fa (.lst []) = H2 at *
  -- side
  refine ⟨.ref l, rfl, l, rfl, ⟨_, .inl (.inl l2)⟩, fun sa hsa => ?_⟩
  have nsb : sa ≠ b := b2.ne_none hsa
  have nsl : l ≠ sa := ne_of_none l2 hsa
  have nsf : fa ≠ sa := ne_of_none f2 hsa
  have ns : H sa = none := o2.free nsb hsa
  refine lc_it (walk_list (xs := pool.map V.str)) (fun i H' => ∃ sd : List Int, Oth b H H' ∧ IsBox H' b ∧ H' l = some (.lst (pool.map V.str)) ∧ H' fa = some (.lst []) ∧ H' sa = some (.lst (sd.map V.int)) ∧ sd.length = i) ?_ ?_ ?_ ?_
  · exact ⟨[], o2.trans (Oth.of (same_upd hsa)), b2.same (same_upd hsa), (upd_ne nsl).trans l2, (upd_ne nsf).trans f2, upd_same, rfl⟩
  · rintro i H' _ ⟨sd, _, _, e, _⟩
    exact .inl (.inl e)
  · rintro i x H4 H3 hi ⟨sd, o3, b3, l3, f3, s3, m3⟩ ⟨rfl, _⟩
    rw [List.length_map] at hi
    refine ⟨rfl, ⟨.ref b, rfl, b, 3, rfl, b3, by decide, by decide, fun v H5 o5 b5 v0 v1 => ⟨sd.map V.int, o5 _ _ nsb s3, ?_, ?_⟩⟩⟩
    · rw [List.length_map]
      exact small1000 (by omega)
    · refine ⟨sd ++ [v], fun a o na e => ?_, ?_, (upd_ne nsl).trans (o5 _ _ nlb l3), (upd_ne nsf).trans (o5 _ _ nfb f3), ?_, ?_⟩
      · rw [upd_ne (ne_of_none e ns)]
        exact o5 _ _ na (o3 _ _ na e)
      · obtain ⟨i1, i2, i3, e⟩ := b5
        exact ⟨i1, i2, i3, (upd_ne (Ne.symm nsb)).trans e⟩
      · rw [upd_same, List.map_append]
        rfl
      · rw [List.length_append, m3]
        rfl
  rintro H3 ⟨sd, o3, b3, l3, f3, s3, m3⟩
  rw [List.length_map] at m3
  -- the loops
  have hw : way = 0 ∨ way = 1 ∨ way = 2 ∨ way = 3 ∨ way = 4 ∨ way = 5 := by omega
  refine ⟨.ref l, rfl, l, _, rfl, .inl (.inl l3), ?_⟩
  refine for_it (walk_enum (xs := pool.map V.str)) (fun i σ H' => ∃ (y5 y6 y7 y8 y9 : Option V) (bs : List B3), σ = [some (.ref b), some (.ref l), some (.int way), some (.ref fa), some (.ref sa), y5, y6, y7, y8, y9] ∧ Oth b H H' ∧ IsBox H' b ∧ H' l = some (.lst (pool.map V.str)) ∧ H' fa = some (.lst (refs bs)) ∧ H' sa = some (.lst (sd.map V.int)) ∧ PairsAt H' bs ∧ OfPool pool (bs.map (·.2)) ∧ bs.length ≤ 26 * i) ?_ ?_ ?_ ?_
  · exact ⟨_, _, _, _, _, [], rfl, o3, b3, l3, f3, s3, (fun _ h => nomatch h), (fun _ h => nomatch h), Nat.zero_le _⟩
  · rintro i σ H' _ ⟨y5, y6, y7, y8, y9, bs, _, _, _, e, _⟩
    exact .inl (.inl e)
  · rintro i x σ H4 H5 hi ⟨y5, y6, y7, y8, y9, bs, rfl, o4, b4, l4, f4, s4, p4, g4, c4⟩ ⟨T, x1, x2, rfl, nT, rfl, e1, e2⟩
    rw [List.length_map] at hi
    cases e1
    obtain ⟨mine, hmine, rfl⟩ := at_map e2
    have sT : Same H4 (upd H4 T (.tup [.int (i : Nat), .str mine])) := same_upd nT
    refine ⟨T, _, rfl, .inl (.inl upd_same), rfl, _, _, rfl, _, _, rfl, rfl, ?_⟩
    refine ⟨_, rfl, i, rfl, by omega, by omega, ?_⟩
    refine for_it (walk_range (lo := 0) (n := (i : Int).toNat)) (fun j σ H' => ∃ (y7 y8 y9 : Option V) (bs : List B3), σ = [some (.ref b), some (.ref l), some (.int way), some (.ref fa), some (.ref sa), some (.int i), some (.str mine), y7, y8, y9] ∧ Oth b H H' ∧ IsBox H' b ∧ H' l = some (.lst (pool.map V.str)) ∧ H' fa = some (.lst (refs bs)) ∧ H' sa = some (.lst (sd.map V.int)) ∧ PairsAt H' bs ∧ OfPool pool (bs.map (·.2)) ∧ bs.length ≤ 26 * i + j) ?_ (fun _ _ _ _ _ => trivial) ?_ ?_
    · exact ⟨_, _, _, bs, rfl, o4.trans (Oth.of sT), b4.same sT, sT _ _ l4, sT _ _ f4, sT _ _ s4, p4.same sT, g4, by omega⟩
    · rintro j x σ H7 H6 hj ⟨y7, y8, y9, bs, rfl, o6, b6, l6, f6, s6, p6, g6, c6⟩ ⟨rfl, rfl⟩
      have hj2 : j < i := by omega
      obtain ⟨sj, hsj⟩ : ∃ v, sd[j]? = some v := ⟨sd[j]'(by omega), List.getElem?_eq_getElem _⟩
      obtain ⟨si, hsi⟩ : ∃ v, sd[i]? = some v := ⟨sd[i]'(by omega), List.getElem?_eq_getElem _⟩
      obtain ⟨pj, hpj⟩ : ∃ v, pool[j]? = some v := ⟨pool[j]'(by omega), List.getElem?_eq_getElem _⟩
      -- fine, by a draw
      refine ⟨fun v H8 => (∃ fb : Bool, v = .bl fb) ∧ Oth b H6 H8 ∧ IsBox H8 b, ?_, ?_⟩
      · refine ⟨.ref b, rfl, b, 4, rfl, b6, by decide, by decide, fun v1 h1 q1 c1 _ _ => ⟨rfl, .ref b, rfl, b, 2, rfl, c1, by decide, by decide, fun v2 h2 q2 c2 _ _ => ⟨rfl, .ref b, rfl, b, 4, rfl, c2, by decide, by decide, fun v3 h3 q3 c3 _ _ => ⟨_, _, rfl, rfl, (by show 3 ≤ sizeLine; decide), fun p hp => ?_⟩⟩⟩⟩
        have k0 : 0 ≤ way % 3 := Int.emod_nonneg _ (by decide)
        have k1 : way % 3 < 3 := Int.emod_lt_of_pos _ (by decide)
        have ox : Oth b H6 (upd h3 p (.lst [.bl (decide (V.int v1 = V.int 0)), .bl (decide (V.int v2 = V.int 0)), .bl (decide (v3 > 0))])) := ((q1.trans q2).trans q3).trans (Oth.of (same_upd hp))
        have bx : IsBox (upd h3 p (.lst [.bl (decide (V.int v1 = V.int 0)), .bl (decide (V.int v2 = V.int 0)), .bl (decide (v3 > 0))])) b := c3.same (same_upd hp)
        have km : way % 3 = ((0 : Nat) : Int) ∨ way % 3 = ((1 : Nat) : Int) ∨ way % 3 = ((2 : Nat) : Int) := by omega
        rcases km with km | km | km
        · exact ⟨_, rfl, _, _, rfl, rfl, (by show (0 : Int) < 3; decide), p, _, _, _, rfl, rfl, .inl (.inl upd_same), (by rw [km]; exact atI_nat (j := 0) rfl), ⟨_, rfl⟩, ox, bx⟩
        · exact ⟨_, rfl, _, _, rfl, rfl, (by show (0 : Int) < 3; decide), p, _, _, _, rfl, rfl, .inl (.inl upd_same), (by rw [km]; exact atI_nat (j := 1) rfl), ⟨_, rfl⟩, ox, bx⟩
        · exact ⟨_, rfl, _, _, rfl, rfl, (by show (0 : Int) < 3; decide), p, _, _, _, rfl, rfl, .inl (.inl upd_same), (by rw [km]; exact atI_nat (j := 2) rfl), ⟨_, rfl⟩, ox, bx⟩
      rintro v H8 ⟨⟨fb, rfl⟩, o8, b8⟩
      have l8 := o8 _ _ nlb l6
      have f8 := o8 _ _ nfb f6
      have s8 := o8 _ _ nsb s6
      have p8 := p6.oth o8 b6
      have o8' := o6.trans o8
      -- fine, by sides
      refine ⟨fun v H9 => (∃ fb : Bool, v = .bl fb) ∧ H9 = H8, ?_, ?_⟩
      · refine ⟨_, rfl, rfl, _, rfl, ite2 (fun _ => ?_) (fun _ => ?_)⟩
        · exact ⟨_, rfl, _, rfl, sa, _, _, _, rfl, rfl, .inl (.inl s8), atI_nat (ix_map hsi), _, rfl, _, rfl, sa, _, _, _, rfl, rfl, .inl (.inl s8), (by rw [Int.zero_add]; exact atI_nat (ix_map hsj)), rfl, ⟨_, rfl⟩, rfl⟩
        · exact ⟨_, rfl, ⟨_, rfl⟩, rfl⟩
      rintro v H9 ⟨⟨fb2, rfl⟩, rfl⟩
      refine ⟨_, rfl, fb2, rfl, ite2 (fun _ => ?_) (fun _ => ?_)⟩
      · refine ⟨.ref fa, rfl, .inl ⟨rfl, _, .inl (.inl f8)⟩, _, rfl, _, rfl, _, rfl, l, _, _, _, rfl, rfl, .inl (.inl l8), (by rw [Int.zero_add]; exact atI_nat (ix_map hpj)), _, _, rfl, _, rfl, _, rfl, _, rfl, l, _, _, _, rfl, rfl, .inl (.inl l8), (by rw [Int.zero_add]; exact atI_nat (ix_map hpj)), _, _, rfl, (by show 2 ≤ sizeLine; decide), fun t ht => ?_⟩
        have st : Same H9 (upd H9 t (.tup [.str (lmin mine pj), .str (lmax mine pj)])) := same_upd ht
        have f9 := st _ _ f8
        have ntf : t ≠ fa := (ne_of_none f8 ht).symm
        refine ⟨fa, _, _, rfl, rfl, f9, ?_, ?_⟩
        · show (bs.map _).length < _
          rw [List.length_map]
          exact small1000 (by omega)
        · refine ⟨_, _, _, bs ++ [(t, lmin mine pj, lmax mine pj)], rfl, fun a o na e => ?_, ?_, ?_, ?_, ?_, ?_, ?_, ?_⟩
          · rw [upd_ne (ne_of_none e nf)]
            exact st _ _ (o8' _ _ na e)
          · obtain ⟨i1, i2, i3, e⟩ := b8
            exact ⟨i1, i2, i3, (upd_ne (Ne.symm nfb)).trans (st _ _ e)⟩
          · exact (upd_ne nlf).trans (st _ _ l8)
          · rw [upd_same]
            show _ = some (HO.lst ((bs ++ [_]).map _))
            rw [List.map_append]
            rfl
          · exact (upd_ne (Ne.symm nsf)).trans (st _ _ s8)
          · intro c hc
            rcases List.mem_append.mp hc with z | z
            · have e := st _ _ (p8 c z)
              rw [upd_ne (ne_of e f9 (fun z => nomatch z))]
              exact e
            · have ec : c = (t, lmin mine pj, lmax mine pj) := by simpa using z
              rw [ec]
              exact (upd_ne ntf).trans upd_same
          · rw [List.map_append]
            intro p hp
            rcases List.mem_append.mp hp with z | z
            · exact g6 p z
            · have ep : p = (lmin mine pj, lmax mine pj) := by simpa using z
              refine ⟨mine, pj, List.mem_of_getElem? hmine, List.mem_of_getElem? hpj, fun z => ?_, ep⟩
              rw [← z] at hpj
              have := nd_ix hnd hmine hpj
              omega
          · rw [List.length_append]
            show bs.length + 1 ≤ _
            omega
      · exact ⟨_, _, _, bs, rfl, o8', b8, l8, f8, s8, p8, g6, by omega⟩
    · rintro σ H6 ⟨y7, y8, y9, bs, rfl, o6, b6, l6, f6, s6, p6, g6, c6⟩
      exact ⟨_, _, _, _, _, bs, rfl, o6, b6, l6, f6, s6, p6, g6, by omega⟩
  · rintro σ H4 ⟨y5, y6, y7, y8, y9, bs, rfl, o4, b4, l4, f4, s4, p4, g4, c4⟩
    rw [List.length_map] at c4
    refine ⟨_, rfl, fa, bs, rfl, .inl (.inl f4), p4, fun p hp => ?_⟩
    have s5 : Same H4 (upd H4 p (.lst ((bs.mergeSort (PySem.W.dataLe false encP)).map fun b => V.ref b.1))) := same_upd hp
    refine ⟨p, _, rfl, .inl ⟨.inl (.inl upd_same), fun a ha => ?_⟩⟩
    have s6 := s5.trans (same_upd (o := .tup ((bs.mergeSort (PySem.W.dataLe false encP)).map fun b => V.ref b.1)) ha)
    have nab : a ≠ b := (b4.same s5).ne_none ha
    have pm := List.mergeSort_perm bs (PySem.W.dataLe false encP)
    refine q a (bs.mergeSort (PySem.W.dataLe false encP)) _ (o4.trans (Oth.of s6)) (b4.same s6) (o4.free nab (s5.free ha)) upd_same (fun c hc => s6 _ _ (p4 c (pm.mem_iff.mp hc))) (fun p' hp' => g4 p' ((pm.map _).mem_iff.mp hp')) ?_ ⟨bs, rfl⟩
    rw [pm.length_eq]
    omega
/-! ### _law_are -/
abbrev sAre : Stmt := topS 56
theorem scAre : FnScope ["_law_pals_here", "_law_mine", "_law_its"] ["_law_pals_here", "_law_mine", "_law_its"] (defScope sAre) := ⟨rfl, rfl, rfl, by decide +kernel, rfl, by decide +kernel, by decide +kernel⟩
theorem ok_are {f : Addr} {fd : FuncData} (B : Blt mg) (F : Fun K "_law_are" "_law_are" sAre f fd) : FnOk P w K mg base CX0 1 f fd ["_law_pals_here", "_law_mine", "_law_its"] spAre := by
  refine fok F scAre (fun vs H Q E h => ?_) (fun cdv A outer s H vs Q E hr h => ?_)
  · obtain ⟨a, ps, x, y, rfl, _⟩ := h
    rfl
  obtain ⟨a, ps, x, y, rfl, ha, ho, gx, gy, q⟩ := h
  refine ⟨_, pss_one (ps_ret (pe_cmpR (op_inT (u65 hr)) (pe_tup (pa_cons (pe_callB (call_minS rfl) (by rfl) B.min (by decide +kernel) (pa_cons (pv 1) (pa_cons (pv 2) pa_nil))) (pa_cons (pe_callB (call_maxS rfl) (by rfl) B.max (by decide +kernel) (pa_cons (pv 1) (pa_cons (pv 2) pa_nil))) pa_nil))) (pv 0) (by rfl))), ?_⟩
  refine ⟨_, rfl, _, rfl, _, _, rfl, _, rfl, _, rfl, _, _, rfl, (by show 2 ≤ sizeLine; decide), fun t ht => ?_⟩
  have st : Same H (upd H t (.tup [.str (lmin x y), .str (lmax x y)])) := same_upd ht
  refine ⟨_, rfl, _, _, dp_tuple (xs := [lmin x y, lmax x y]) upd_same, dp_pals (ha.same st), sh_pair (p := (lmin x y, lmax x y)) ⟨lmin_good gx gy, lmax_good gx gy⟩, sh_pals ho.good, ?_⟩
  have e := any_pair ps (lmin x y, lmax x y)
  rw [frd_pair ho] at e
  have e2 : ((ps.map encQ).any fun z => PyData.eqv z (.tuple ([lmin x y, lmax x y].map .str))) = frd ps x y := e
  rw [e2]
  exact q _ st
/-! ### _law_come -/
abbrev sCome : Stmt := topS 57
abbrev nCome : List Str := ["_law_pals_here", "_law_stand", "_law_name", "_law_spot", "_law_k", "_law_its", "_law_known"]
theorem scCome : FnScope nCome ["_law_pals_here", "_law_stand", "_law_name"] (defScope sCome) := ⟨rfl, rfl, rfl, by decide +kernel, rfl, by decide +kernel, by decide +kernel⟩
theorem ok_come {f : Addr} {fd : FuncData} (B : Blt mg) (CA : Cal P w K mg base 1 "_law_are" ["_law_pals_here", "_law_mine", "_law_its"] spAre) (F : Fun K "_law_come" "_law_come" sCome f fd) : FnOk P w K mg base CX0 2 f fd ["_law_pals_here", "_law_stand", "_law_name"] spCome := by
  refine fok F scCome (fun vs H Q E h => ?_) (fun cdv A outer s H vs Q E hr h => ?_)
  · obtain ⟨a, t, ps, stand, x, rfl, _⟩ := h
    rfl
  obtain ⟨a, t, ps, stand, x, rfl, ha, ho, ht, gs, gx, hn, q⟩ := h
  refine ⟨_, pss_cons (ps_set (i := 3) scCome.nd rfl (.inl rfl) (pe_callB call_len_seq (by rfl) B.len PySem.boot_len (pa_cons (pv 1) pa_nil)))
    (pss_cons (ps_for PassesOwn.never rfl (pi_enumT (by rfl) B.enumerate (pa_cons (pv 1) pa_nil)) (pg_tup rfl (pgs_cons (pg_name (i := 4) scCome.nd rfl (.inl rfl)) (pgs_cons (pg_name (i := 5) scCome.nd rfl (.inl rfl)) pgs_nil)))
      (pss_one (ps_if (pt_val (pe_cal CA hr (pa_cons (pv 0) (pa_cons (pv 2) (pa_cons (pv 5) pa_nil))))) (pss_one (ps_set (i := 3) scCome.nd rfl (.inl rfl) (pe_op op_add (pv 4) pe_int))) pss_nil)))
    (pss_cons (ps_setLc (i := 6) (own := [("_law_its", 5)]) (g := gName 5) (tt := tB (tCall spAre [] E0 (tCons (tVar 0) (tCons (tVar 2) (tCons (tVar 5) tNil))))) rfl scCome.nd rfl rfl (sw_true rfl rfl rfl (by decide +kernel)) (pi_tup (pv 1)) (blkOk_by (N := nCome) (sc := defScope sCome) (by decide +kernel)) (fun _ _ _ _ _ => pg_name (i := 5) scCome.nd rfl (Or.inl rfl))
        (fun _ _ _ _ _ => pts_one (pt_val (pe_cal CA hr (pa_cons (pv 0) (pa_cons (pv 2) (pa_cons (pv 5) pa_nil)))))) (fun _ _ _ _ _ => pv 5))
    (pss_cons (ps_set (i := 3) scCome.nd rfl (.inl rfl) (pe_mid (pe_ifExp (pt_cmpR (op_neNil hr.units) (pv 6) (pe_lst pa_nil) (nomark _)) (pv 3) (pe_callB call_len_seq (by rfl) B.len PySem.boot_len (pa_cons (pv 1) pa_nil)))))
    (pss_one (ps_ret (pe_op op_catM (pe_op op_catM (pe_slice sl_tupM (pv 1) po_none (po_some (pv 3))) (pe_tupF (pa_cons (pv 2) pa_nil))) (pe_slice sl_tupM (pv 1) (po_some (pv 3)) po_none))))))), ?_⟩
  -- spot = len(stand)
  refine ⟨.ref t, rfl, t, _, rfl, .inr ht.sq, ?_⟩
  rw [List.length_map]
  -- the loop
  refine ⟨.ref t, rfl, t, _, rfl, ht.sq, ?_⟩
  refine for_it (walk_enumT (xs := stand.map V.str)) (fun i σ H' => ∃ (y4 y5 y6 : Option V), σ = [some (.ref a), some (.ref t), some (.str x), some (.int (match lastP (frd ps x) (stand.take i) with | some k => ((k + 1 : Nat) : Int) | none => (stand.length : Int))), y4, y5, y6] ∧ Same H H') ?_ ?_ ?_ ?_
  · exact ⟨_, _, _, rfl, Same.refl H⟩
  · rintro i σ H' _ ⟨y4, y5, y6, _, s1⟩
    exact (ht.same s1).sq
  · rintro i v σ H1 H2 hi ⟨y4, y5, y6, rfl, s1⟩ ⟨T, x1, x2, rfl, nT, rfl, e1, e2⟩
    cases e1
    obtain ⟨its, hits, rfl⟩ := at_map e2
    have s2 := s1.trans (same_upd (o := .tup [.int (i : Nat), .str its]) nT)
    refine ⟨T, _, rfl, .inl (.inl upd_same), rfl, _, _, rfl, _, _, rfl, rfl, ?_⟩
    refine ⟨_, rfl, _, rfl, _, rfl, a, ps, x, its, rfl, ha.same s2, ho, gx, gs.at_ hits, fun H3 s3 => ⟨_, rfl, ?_⟩⟩
    have lt := lastP_take (frd ps x) hits
    refine ite2 (fun c => ?_) (fun c => ?_)
    · rw [if_pos c] at lt
      refine ⟨_, rfl, _, _, rfl, rfl, some (.int (i : Nat)), some (.str its), y6, ?_, s2.trans s3⟩
      rw [lt]
      rfl
    · rw [if_neg c] at lt
      refine ⟨some (.int (i : Nat)), some (.str its), y6, ?_, s2.trans s3⟩
      rw [lt]
      rfl
  rintro σ H1 ⟨y4, y5, y6, rfl, s1⟩
  rw [List.length_map, List.take_of_length_le (Nat.le_refl _)]
  -- known
  refine ⟨.ref t, rfl, t, rfl, ⟨_, (ht.same s1).sq⟩, fun D hD => ?_⟩
  have nD : H D = none := s1.free hD
  refine lc_it (walk_tup (xs := stand.map V.str)) (fun i H' => Same H H' ∧ H' D = some (.lst (((stand.take i).filter (frd ps x)).map V.str))) ?_ ?_ ?_ ?_
  · exact ⟨s1.trans (same_upd hD), upd_same⟩
  · rintro i H' _ ⟨s2, _⟩
    exact (ht.same s2).sq
  · rintro i v H3 H2 hi ⟨s2, d2⟩ ⟨rfl, e2⟩
    obtain ⟨its, hits, rfl⟩ := at_map e2
    rw [List.length_map] at hi
    have ft : (stand.take (i + 1)).filter (frd ps x) = (stand.take i).filter (frd ps x) ++ if frd ps x its = true then [its] else [] := by
      rw [List.take_add_one, hits, List.filter_append]
      show _ ++ List.filter (frd ps x) [its] = _
      rw [List.filter_cons, List.filter_nil]
    refine ⟨rfl, _, rfl, _, rfl, _, rfl, a, ps, x, its, rfl, ha.same s2, ho, gx, gs.at_ hits, fun H4 s4 => ⟨_, rfl, ?_⟩⟩
    refine ite2 (fun c => ?_) (fun c => ?_)
    · rw [if_pos c] at ft
      refine ⟨_, rfl, _, s4 _ _ d2, ?_, fun b o e => ?_, ?_⟩
      · rw [List.length_map]
        exact small1000 (Nat.le_trans (List.length_filter_le _ _) (by rw [List.length_take]; omega))
      · rw [upd_ne (ne_of_none e nD)]
        exact s4 _ _ (s2 _ _ e)
      · rw [upd_same, ft, List.map_append]
        rfl
    · rw [if_neg c, List.append_nil] at ft
      exact ⟨s2.trans s4, by rw [ft]; exact s4 _ _ d2⟩
  rintro H2 ⟨s2, d2⟩
  rw [List.length_map, List.take_of_length_le (Nat.le_refl _)] at d2
  have t2 := ht.same s2
  -- spot
  refine ⟨fun v H' => v = .int (spotOf ps stand x : Nat) ∧ Same H H', ?_, ?_⟩
  · refine ⟨_, rfl, (by show 0 ≤ sizeLine; decide), fun p hp => ⟨D, p, _, rfl, rfl, same_upd hp _ _ d2, upd_same, gs.filter, _, rfl, ?_⟩⟩
    have s3 := s2.trans (same_upd (o := .lst []) hp)
    unfold spotOf
    refine ite2 (fun c => ?_) (fun c => ?_)
    · refine ⟨_, rfl, ?_, s3⟩
      cases e : lastP (frd ps x) stand with
      | none =>
        exact absurd (lastP_nil.mp e) (of_decide_eq_false (by simpa using c))
      | some k => rfl
    · refine ⟨.ref t, rfl, t, _, rfl, .inr (t2.same (same_upd hp)).sq, ?_, s3⟩
      rw [List.length_map]
      cases e : lastP (frd ps x) stand with
      | none => rfl
      | some k =>
        have z : ¬ stand.filter (frd ps x) = [] := fun z => by rw [lastP_nil.mpr z] at e; cases e
        rw [decide_eq_false z] at c
        first | exact absurd rfl c | exact c.elim rfl | skip
  rintro v H3 ⟨rfl, s3⟩
  have t3 := ht.same s3
  refine ⟨.ref t, rfl, _, rfl, _, rfl, t, _, rfl, t3, fun t1 H4 s4 e4 => ?_⟩
  rw [cutV_map, cutL_to] at e4
  refine ⟨_, rfl, (by show 1 ≤ sizeLine; decide), fun p Hp sp hp tp => ?_⟩
  refine ⟨t1, p, _, _, rfl, rfl, e4.same sp, tp, ?_, fun t5 H5 s5 e5 => ?_⟩
  · rw [List.length_map, List.length_take]
    exact small_le (by show _ + 1 ≤ 1000; omega)
  have s35 := (s4.trans sp).trans s5
  refine ⟨.ref t, rfl, _, rfl, _, rfl, t, _, rfl, t3.same s35, fun t6 H6 s6 e6 => ?_⟩
  rw [cutV_map, cutL_from] at e6
  refine ⟨t5, t6, _, _, rfl, rfl, e5.same s6, e6, ?_, fun t7 H7 s7 e7 => ?_⟩
  · rw [List.length_append, List.length_map, List.length_map, List.length_take, List.length_drop]
    exact small_le (by show _ + 1 + _ ≤ 1000; omega)
  refine q t7 H7 ((s3.trans s35).trans (s6.trans s7)) ?_
  unfold comeTo
  rw [List.map_append, List.map_append]
  exact e7
/-! ### _law_strewn -/
abbrev sStrewn : Stmt := topS 58
abbrev nStrewn : List Str := ["_law_box_here", "_law_some", "_law_found", "_law_name"]
theorem scStrewn : FnScope nStrewn ["_law_box_here", "_law_some"] (defScope sStrewn) := ⟨rfl, rfl, rfl, by decide +kernel, rfl, by decide +kernel, by decide +kernel⟩
theorem ok_strewn {f : Addr} {fd : FuncData} (B : Blt mg) (CT : Cal P w K mg base 1 "_law_take" ["_law_box_here", "_law_many"] spTake) (F : Fun K "_law_strewn" "_law_strewn" sStrewn f fd) : FnOk P w K mg base CX0 2 f fd ["_law_box_here", "_law_some"] spStrewn := by
  refine fok F scStrewn (fun vs H Q E h => ?_) (fun cdv A outer s H vs Q E hr h => ?_)
  · obtain ⟨b, l, pool, rfl, _⟩ := h
    rfl
  obtain ⟨b, l, pool, rfl, hb, hl, hn, q⟩ := h
  have nlb : l ≠ b := hl.elim (fun e => e.ne hb) (fun e => hb.ne_strs e)
  refine ⟨_, pss_cons (ps_set (i := 2) scStrewn.nd rfl (.inl rfl) (pe_lst pa_nil))
    (pss_cons (ps_for PassesOwn.never rfl (pi_or2 (pi_list (pv 1)) (pi_tup (pv 1))) (pg_name (i := 3) scStrewn.nd rfl (.inl rfl))
      (pss_one (ps_expr (pe_bm PySem.F.plainAttrs_list PySem.F.slot_list_insert PySem.F.type_list_insert mt_insert (pv 2) (pa_cons (pe_cal CT hr (pa_cons (pv 0) (pa_cons (pe_op op_add (pe_callB call_len_seq (by rfl) B.len PySem.boot_len (pa_cons (pv 2) pa_nil)) pe_int) pa_nil))) (pa_cons (pv 3) pa_nil))))))
    (pss_one (ps_ret (pv 2)))), ?_⟩
  refine ⟨(by show 0 ≤ sizeLine; decide), fun fa hfa => ?_⟩
  have s0 : Same H (upd H fa (.lst [])) := same_upd hfa
  have nfb : fa ≠ b := hb.ne_none hfa
  have nlf : l ≠ fa := hl.elim (fun e => e.ne_new hfa) (fun e => ne_of_none e hfa)
  have turn : ∀ (i : Nat) (x : Str) (σ : L2.St) (H1 : Hp), pool[i]? = some x → (∃ (order : List Str) (y3 : Option V), σ = [some (.ref b), some (.ref l), some (.ref fa), y3] ∧ Oth b H H1 ∧ IsBox H1 b ∧ RowAt H1 l pool ∧ H1 fa = some (.lst (order.map V.str)) ∧ order.Perm (pool.take i)) → ∀ (D : Ends), D.nx = (fun σ H1 => ∃ (order : List Str) (y3 : Option V), σ = [some (.ref b), some (.ref l), some (.ref fa), y3] ∧ Oth b H H1 ∧ IsBox H1 b ∧ RowAt H1 l pool ∧ H1 fa = some (.lst (order.map V.str)) ∧ order.Perm (pool.take (i + 1))) →
      (tDrop (tBM K "list" (fun x vs H Q => ∃ l xs i y, x = .ref l ∧ vs = [.int i, y] ∧ H l = some (.lst xs) ∧ xs.length < sizeLine ∧ 0 ≤ i ∧ i < 2 ^ 63 ∧ Q .non (upd H l (.lst (xs.take i.toNat ++ [y] ++ xs.drop i.toNat)))) (tVar 2) (tCons (tCall spTake [] E0 (tCons (tVar 0) (tCons (tOp (rI0 fun i j => .int (i + j)) (tCB (fun xs H Q => ∃ p ys, xs = [.ref p] ∧ (SqL K H p ys ∨ SqT K H p ys) ∧ Q (.int ys.length) H) (tCons (tVar 2) tNil)) (tC (.int 1))) tNil))) (tCons (tVar 3) tNil)))) D (σ.set 3 (some (.str x))) H1 := by
    rintro i x σ H1 hx ⟨order, y3, rfl, o1, b1, l1, f1, p1⟩ D hD
    have hi : i < pool.length := (List.getElem?_eq_some_iff.mp hx).1
    have ol : order.length = i := by
      rw [p1.length_eq, List.length_take]
      omega
    have L1 : SqL K H1 fa (order.map V.str) := .inl (.inl f1)
    refine ⟨.ref fa, rfl, .inl ⟨rfl, _, L1⟩, .ref b, rfl, .ref fa, rfl, fa, _, rfl, .inl L1, _, _, rfl, rfl, b, _, rfl, b1, by omega, ?_, fun v H2 o2 b2 v0 v1 => ?_⟩
    · rw [List.length_map]
      omega
    have f2 : H2 fa = some (.lst (order.map V.str)) := o2 _ _ nfb f1
    refine ⟨_, rfl, fa, _, v, _, rfl, rfl, f2, ?_, v0, ?_, ?_⟩
    · rw [List.length_map]
      exact small1000 (by omega)
    · rw [List.length_map] at v1
      omega
    rw [hD]
    have pm := ins_perm order v.toNat x
    refine ⟨order.take v.toNat ++ [x] ++ order.drop v.toNat, _, rfl, fun a o na e => ?_, ?_, ?_, ?_, ?_⟩
    · rw [upd_ne (ne_of_none e hfa)]
      exact o2 _ _ na (o1 _ _ na e)
    · obtain ⟨i1, i2, i3, e⟩ := b2
      exact ⟨i1, i2, i3, (upd_ne (Ne.symm nfb)).trans e⟩
    · exact l1.elim (fun e => .inl ((e.oth o2 b1).upd_ f2)) (fun e => .inr ((upd_ne nlf).trans (o2 _ _ nlb e)))
    · rw [upd_same, ins_map]
    · refine pm.trans ((p1.cons x).trans ?_)
      rw [List.take_add_one, hx]
      exact (List.perm_append_singleton x (pool.take i)).symm
  have fin : ∀ (σ : L2.St) (H1 : Hp), (∃ (order : List Str) (y3 : Option V), σ = [some (.ref b), some (.ref l), some (.ref fa), y3] ∧ Oth b H H1 ∧ IsBox H1 b ∧ RowAt H1 l pool ∧ H1 fa = some (.lst (order.map V.str)) ∧ order.Perm (pool.take (pool.map V.str).length)) → ∃ v, σ[2]? = some (some v) ∧ Q v H1 := by
    rintro σ H1 ⟨order, y3, rfl, o1, b1, l1, f1, p1⟩
    rw [List.length_map, List.take_of_length_le (Nat.le_refl _)] at p1
    exact ⟨.ref fa, rfl, q fa order H1 o1 b1 hfa f1 p1⟩
  rcases hl with e | e
  · refine .inr ⟨.ref l, rfl, l, rfl, ⟨_, (e.same s0).sq⟩, ?_⟩
    refine for_it (walk_tup (xs := pool.map V.str)) (fun i σ H1 => ∃ (order : List Str) (y3 : Option V), σ = [some (.ref b), some (.ref l), some (.ref fa), y3] ∧ Oth b H H1 ∧ IsBox H1 b ∧ RowAt H1 l pool ∧ H1 fa = some (.lst (order.map V.str)) ∧ order.Perm (pool.take i)) ?_ ?_ ?_ ?_
    · exact ⟨[], _, rfl, Oth.of s0, hb.same s0, .inl (e.same s0), upd_same, List.Perm.refl _⟩
    · rintro i σ H1 _ ⟨order, y3, _, o1, _⟩
      exact (e.oth o1 hb).sq
    · rintro i v σ H2 H1 hi pv ⟨rfl, e2⟩
      obtain ⟨x, hx, rfl⟩ := at_map e2
      exact turn i x σ _ hx pv _ rfl
    · exact fin
  · refine .inl ⟨.ref l, rfl, l, rfl, ⟨_, .inl (.inl (s0 _ _ e))⟩, ?_⟩
    refine for_it (walk_list (xs := pool.map V.str)) (fun i σ H1 => ∃ (order : List Str) (y3 : Option V), σ = [some (.ref b), some (.ref l), some (.ref fa), y3] ∧ Oth b H H1 ∧ IsBox H1 b ∧ RowAt H1 l pool ∧ H1 fa = some (.lst (order.map V.str)) ∧ order.Perm (pool.take i)) ?_ ?_ ?_ ?_
    · exact ⟨[], _, rfl, Oth.of s0, hb.same s0, .inr (s0 _ _ e), upd_same, List.Perm.refl _⟩
    · rintro i σ H1 _ ⟨order, y3, _, o1, _⟩
      exact .inl (.inl (o1 _ _ nlb e))
    · rintro i v σ H2 H1 hi pv ⟨rfl, e2⟩
      obtain ⟨x, hx, rfl⟩ := at_map e2
      exact turn i x σ _ hx pv _ rfl
    · exact fin
/-! ### _law_same -/
abbrev sSame : Stmt := topS 63
abbrev nSame : List Str := ["_law_found", "_law_due", "_law_one", "_law_two"]
theorem scSame : FnScope nSame ["_law_found", "_law_due"] (defScope sSame) := ⟨rfl, rfl, rfl, by decide +kernel, rfl, by decide +kernel, by decide +kernel⟩
theorem ok_same_step {f : Addr} {fd : FuncData} {n : Nat} (B : Blt mg) (CS : Cal P w K mg base n "_law_same" ["_law_found", "_law_due"] (spSame n)) (F : Fun K "_law_same" "_law_same" sSame f fd) : FnOk P w K mg base CX0 (n + 1) f fd ["_law_found", "_law_due"] (spSame (n + 1)) := by
  refine fok F scSame (fun vs H Q E h => ?_) (fun cdv A outer s H vs Q E hr h => ?_)
  · obtain ⟨x, y, rfl, _⟩ := h
    rfl
  obtain ⟨x, y, rfl, hA, q⟩ := h
  refine ⟨_, pss_cons (ps_if (pt_val (pe_callB call_isiT (by rfl) B.isinstance (by decide +kernel) (pa_cons (pv 1) (pa_cons (pe_tup (pa_cons (pe_bltn (v := .ty "list") (by rfl) B.list (by decide +kernel) rfl) (pa_cons (pe_bltn (v := .ty "tuple") (by rfl) B.tuple (by decide +kernel) rfl) pa_nil))) pa_nil))))
      (pss_cons (ps_if (PW.pt (pw_or (pt_cmpR op_ne (pe_callB call_isi (by rfl) B.isinstance (by decide +kernel) (pa_cons (pv 0) (pa_cons (pe_bltn (v := .ty "list") (by rfl) B.list (by decide +kernel) rfl) pa_nil))) (pe_callB call_isi (by rfl) B.isinstance (by decide +kernel) (pa_cons (pv 1) (pa_cons (pe_bltn (v := .ty "list") (by rfl) B.list (by decide +kernel) rfl) pa_nil))) (nomark _))
          (pw_or1 (pt_cmpR op_ne (pe_callB call_isi (by rfl) B.isinstance (by decide +kernel) (pa_cons (pv 0) (pa_cons (pe_bltn (v := .ty "tuple") (by rfl) B.tuple (by decide +kernel) rfl) pa_nil))) (pe_callB call_isi (by rfl) B.isinstance (by decide +kernel) (pa_cons (pv 1) (pa_cons (pe_bltn (v := .ty "tuple") (by rfl) B.tuple (by decide +kernel) rfl) pa_nil))) (nomark _)))))
        (pss_one (ps_ret pe_bl)) pss_nil)
      (pss_one (ps_ret (pe_and (pe_cmpR op_eq (pe_callB call_len_seq (by rfl) B.len PySem.boot_len (pa_cons (pv 0) pa_nil)) (pe_callB call_len_seq (by rfl) B.len PySem.boot_len (pa_cons (pv 1) pa_nil)) (nomark _))
        (pe_one (pe_callB (cr_all rfl) (by rfl) B.all (by decide +kernel) (pa_cons (pe_lc (own := [("_law_one", 2), ("_law_two", 3)]) (g := gTup K 2 (gCons (gName 2) (gCons (gName 3) gNil))) (tt := tYes) rfl scSame.nd (RZ.pi_zipA (by rfl) B.zip (pa_cons (pv 0) (pa_cons (pv 1) pa_nil))) (blkOk_by (N := nSame) (sc := defScope sSame) (by decide +kernel))
          (fun _ _ _ _ _ => pg_tup rfl (pgs_cons (pg_name (i := 2) scSame.nd rfl (Or.inl rfl)) (pgs_cons (pg_name (i := 3) scSame.nd rfl (Or.inl rfl)) pgs_nil))) (fun _ _ _ _ _ => pts_nil) (fun _ _ _ _ _ => pe_cal CS hr (pa_cons (pv 2) (pa_cons (pv 3) pa_nil)))) pa_nil))))))) pss_nil)
    (pss_cons (ps_if (pt_cmp (pc_isN (pv 1))) (pss_one (ps_ret (pe_cmp (pc_isN (pv 0)) rfl))) pss_nil)
    (pss_cons (ps_if (pt_val (pe_callB call_isi (by rfl) B.isinstance (by decide +kernel) (pa_cons (pv 1) (pa_cons (pe_bltn (v := .ty "str") (by rfl) B.str (by decide +kernel) rfl) pa_nil)))) (pss_one (ps_ret (pe_and (pe_callB call_isi (by rfl) B.isinstance (by decide +kernel) (pa_cons (pv 0) (pa_cons (pe_bltn (v := .ty "str") (by rfl) B.str (by decide +kernel) rfl) pa_nil))) (pe_one (pe_cmpR op_eq (pv 0) (pv 1) (nomark _)))))) pss_nil)
    (pss_cons (ps_if (pt_val (pe_callB call_isi (by rfl) B.isinstance (by decide +kernel) (pa_cons (pv 1) (pa_cons (pe_bltn (v := .ty "bool") (by rfl) B.bool (by decide +kernel) rfl) pa_nil)))) (pss_one (ps_ret (pe_and (pe_callB call_isi (by rfl) B.isinstance (by decide +kernel) (pa_cons (pv 0) (pa_cons (pe_bltn (v := .ty "bool") (by rfl) B.bool (by decide +kernel) rfl) pa_nil))) (pe_one (pe_cmpR op_eq (pv 0) (pv 1) (nomark _)))))) pss_nil)
    (pss_one (ps_ret (pe_and (pe_callB call_isi (by rfl) B.isinstance (by decide +kernel) (pa_cons (pv 0) (pa_cons (pe_bltn (v := .ty "int") (by rfl) B.int (by decide +kernel) rfl) pa_nil))) (pe_and (pe_not (pe_callB call_isi (by rfl) B.isinstance (by decide +kernel) (pa_cons (pv 0) (pa_cons (pe_bltn (v := .ty "bool") (by rfl) B.bool (by decide +kernel) rfl) pa_nil)))) (pe_one (pe_cmpR op_eq (pv 0) (pv 1) (nomark _)))))))))), ?_⟩
  have l2 : (2 : Nat) ≤ sizeLine := by decide
  rcases hA with ⟨hx, rfl⟩ | ⟨a, b, xs, ys, rfl, rfl, h1, h2, hl, hz, h⟩ | ⟨a, b, xs, ys, rfl, rfl, h1, h2, hl, hz, h⟩
  · rcases hx with rfl | ⟨c, rfl⟩ | ⟨c, rfl⟩ | ⟨c, rfl⟩
    · refine ⟨_, rfl, l2, fun p hp => ⟨_, p, _, _, _, false, rfl, upd_same, .cons (.ty _) (.cons (.ty _) .nil), .base .non, kitAny_cons (b := false) (kit_ty (by decide +kernel)) (fun _ => kitAny_cons (b := false) (kit_ty (by decide +kernel)) (fun _ => kitAny_nil) (fun z => nomatch z)) (fun z => nomatch z), _, rfl, ?_⟩⟩
      exact ⟨_, rfl, _, rfl, _, rfl, q _ (same_upd hp)⟩
    · refine ⟨_, rfl, l2, fun p hp => ⟨_, p, _, _, _, false, rfl, upd_same, .cons (.ty _) (.cons (.ty _) .nil), .base (.bl c), kitAny_cons (b := false) (kit_ty (by decide +kernel)) (fun _ => kitAny_cons (b := false) (kit_ty (by decide +kernel)) (fun _ => kitAny_nil) (fun z => nomatch z)) (fun z => nomatch z), _, rfl, ?_⟩⟩
      refine ⟨_, rfl, _, rfl, _, rfl, _, _, _, _, false, rfl, .ty _, .base (.bl c), kit_ty (by decide +kernel), _, rfl, ?_⟩
      refine ⟨_, rfl, _, _, _, _, true, rfl, .ty _, .base (.bl c), kit_ty (by decide +kernel), _, rfl, ?_⟩
      refine ⟨_, rfl, _, _, _, _, true, rfl, .ty _, .base (.bl c), kit_ty (by decide +kernel), _, rfl, _, rfl, _, rfl, rfl, ?_⟩
      rw [decide_eq_true rfl]
      exact q _ (same_upd hp)
    · refine ⟨_, rfl, l2, fun p hp => ⟨_, p, _, _, _, false, rfl, upd_same, .cons (.ty _) (.cons (.ty _) .nil), .base (.int c), kitAny_cons (b := false) (kit_ty (by decide +kernel)) (fun _ => kitAny_cons (b := false) (kit_ty (by decide +kernel)) (fun _ => kitAny_nil) (fun z => nomatch z)) (fun z => nomatch z), _, rfl, ?_⟩⟩
      refine ⟨_, rfl, _, rfl, _, rfl, _, _, _, _, false, rfl, .ty _, .base (.int c), kit_ty (by decide +kernel), _, rfl, ?_⟩
      refine ⟨_, rfl, _, _, _, _, false, rfl, .ty _, .base (.int c), kit_ty (by decide +kernel), _, rfl, ?_⟩
      refine ⟨_, rfl, _, _, _, _, true, rfl, .ty _, .base (.int c), kit_ty (by decide +kernel), _, rfl, _, rfl, _, _, _, _, false, rfl, .ty _, .base (.int c), kit_ty (by decide +kernel), _, rfl, _, rfl, ?_⟩
      refine ⟨_, rfl, _, rfl, rfl, ?_⟩
      rw [decide_eq_true rfl]
      exact q _ (same_upd hp)
    · refine ⟨_, rfl, l2, fun p hp => ⟨_, p, _, _, _, false, rfl, upd_same, .cons (.ty _) (.cons (.ty _) .nil), .base (.str c), kitAny_cons (b := false) (kit_ty (by decide +kernel)) (fun _ => kitAny_cons (b := false) (kit_ty (by decide +kernel)) (fun _ => kitAny_nil) (fun z => nomatch z)) (fun z => nomatch z), _, rfl, ?_⟩⟩
      refine ⟨_, rfl, _, rfl, _, rfl, _, _, _, _, true, rfl, .ty _, .base (.str c), kit_ty (by decide +kernel), _, rfl, ?_⟩
      refine ⟨_, rfl, _, _, _, _, true, rfl, .ty _, .base (.str c), kit_ty (by decide +kernel), _, rfl, _, rfl, _, rfl, rfl, ?_⟩
      rw [decide_eq_true rfl]
      exact q _ (same_upd hp)
  · refine ⟨_, rfl, l2, fun p hp => ⟨_, p, _, _, _, true, rfl, upd_same, .cons (.ty _) (.cons (.ty _) .nil), .base (.lst (same_upd hp _ _ h2)), kitAny_cons (b := true) (kit_ty (by decide +kernel)) (fun z => nomatch z) (fun _ => rfl), _, rfl, ?_⟩⟩
    have sp : Same H (upd H p (.tup [.ty "list", .ty "tuple"])) := same_upd hp
    have k1 := sp _ _ h1
    have k2 := sp _ _ h2
    refine ⟨_, rfl, _, _, _, _, true, rfl, .ty _, .base (.lst k1), kit_ty (by decide +kernel), _, rfl, _, _, _, _, true, rfl, .ty _, .base (.lst k2), kit_ty (by decide +kernel), rfl, _, rfl, ?_⟩
    refine ⟨_, rfl, _, _, _, _, false, rfl, .ty _, .base (.lst k1), kit_ty (by decide +kernel), _, rfl, _, _, _, _, false, rfl, .ty _, .base (.lst k2), kit_ty (by decide +kernel), rfl, _, rfl, ?_⟩
    refine ⟨_, rfl, a, _, rfl, .inl (.inl (.inl k1)), _, rfl, b, _, rfl, .inl (.inl (.inl k2)), rfl, _, rfl, ?_⟩
    rw [hl, decide_eq_true rfl]
    refine ⟨_, rfl, _, rfl, a, b, xs, ys, rfl, .inl ⟨.inl (.inl k1), .inl (.inl k2), fun D hD => ?_⟩⟩
    refine lc_it (walk_zip (xs := xs) (ys := ys) (n := xs.length) (by omega)) (fun i H' => Same (upd H p (.tup [.ty "list", .ty "tuple"])) H' ∧ H' D = some (.lst ((List.replicate i true).map V.bl))) ?_ ?_ ?_ ?_
    · exact ⟨same_upd hD, upd_same⟩
    · rintro i H' _ ⟨s2, _⟩
      exact ⟨.inl (.inl (s2 _ _ k1)), .inl (.inl (s2 _ _ k2))⟩
    · rintro i v H2 H3 hi ⟨s2, d2⟩ ⟨T, u1, u2, rfl, nT, rfl, e1, e2⟩
      have s3 := s2.trans (same_upd (o := .tup [u1, u2]) nT)
      refine ⟨T, _, rfl, .inl (.inl upd_same), rfl, _, _, rfl, _, _, rfl, rfl, rfl, ?_⟩
      refine ⟨_, rfl, _, rfl, u1, u2, rfl, (h i u1 u2 e1 e2).same (sp.trans s3), fun H4 s4 => ?_⟩
      have d4 := s4 _ _ (same_upd nT _ _ d2)
      refine ⟨_, d4, ?_, fun c o e => ?_, ?_⟩
      · rw [List.length_map, List.length_replicate]
        exact small1000 (by omega)
      · rw [upd_ne (ne_of_none e hD)]
        exact s4 _ _ (s3 _ _ e)
      · rw [upd_same, List.replicate_succ', List.map_append]
        rfl
    · rintro H2 ⟨s2, d2⟩
      refine ⟨D, _, rfl, .inl (.inl d2), ?_⟩
      rw [show (List.replicate xs.length true).all id = true by simp]
      exact q _ (sp.trans s2)
  · refine ⟨_, rfl, l2, fun p hp => ⟨_, p, _, _, _, true, rfl, upd_same, .cons (.ty _) (.cons (.ty _) .nil), (h2.same (same_upd hp)).ty, kitAny_cons (b := false) (kit_ty (by decide +kernel)) (fun _ => kitAny_cons (b := true) (kit_ty (by decide +kernel)) (fun z => nomatch z) (fun _ => rfl)) (fun z => nomatch z), _, rfl, ?_⟩⟩
    have sp : Same H (upd H p (.tup [.ty "list", .ty "tuple"])) := same_upd hp
    have k1 := h1.same sp
    have k2 := h2.same sp
    refine ⟨_, rfl, _, _, _, _, false, rfl, .ty _, k1.ty, kit_ty (by decide +kernel), _, rfl, _, _, _, _, false, rfl, .ty _, k2.ty, kit_ty (by decide +kernel), rfl, _, rfl, ?_⟩
    refine ⟨_, rfl, _, _, _, _, true, rfl, .ty _, k1.ty, kit_ty (by decide +kernel), _, rfl, _, _, _, _, true, rfl, .ty _, k2.ty, kit_ty (by decide +kernel), rfl, _, rfl, ?_⟩
    refine ⟨_, rfl, a, _, rfl, .inr k1.sq, _, rfl, b, _, rfl, .inr k2.sq, rfl, _, rfl, ?_⟩
    rw [hl, decide_eq_true rfl]
    refine ⟨_, rfl, _, rfl, a, b, xs, ys, rfl, .inr ⟨k1.sq, k2.sq, fun D hD => ?_⟩⟩
    refine lc_it (walk_zipT (xs := xs) (ys := ys) (n := xs.length) (by omega)) (fun i H' => Same (upd H p (.tup [.ty "list", .ty "tuple"])) H' ∧ H' D = some (.lst ((List.replicate i true).map V.bl))) ?_ ?_ ?_ ?_
    · exact ⟨same_upd hD, upd_same⟩
    · rintro i H' _ ⟨s2, _⟩
      exact ⟨(k1.same s2).sq, (k2.same s2).sq⟩
    · rintro i v H2 H3 hi ⟨s2, d2⟩ ⟨T, u1, u2, rfl, nT, rfl, e1, e2⟩
      have s3 := s2.trans (same_upd (o := .tup [u1, u2]) nT)
      refine ⟨T, _, rfl, .inl (.inl upd_same), rfl, _, _, rfl, _, _, rfl, rfl, rfl, ?_⟩
      refine ⟨_, rfl, _, rfl, u1, u2, rfl, (h i u1 u2 e1 e2).same (sp.trans s3), fun H4 s4 => ?_⟩
      have d4 := s4 _ _ (same_upd nT _ _ d2)
      refine ⟨_, d4, ?_, fun c o e => ?_, ?_⟩
      · rw [List.length_map, List.length_replicate]
        exact small1000 (by omega)
      · rw [upd_ne (ne_of_none e hD)]
        exact s4 _ _ (s3 _ _ e)
      · rw [upd_same, List.replicate_succ', List.map_append]
        rfl
    · rintro H2 ⟨s2, d2⟩
      refine ⟨D, _, rfl, .inl (.inl d2), ?_⟩
      rw [show (List.replicate xs.length true).all id = true by simp]
      exact q _ (sp.trans s2)
theorem ok_same {f : Addr} {fd : FuncData} (B : Blt mg) (F : Fun K "_law_same" "_law_same" sSame f fd) (hm : mg "_law_same" = some (.ref f)) (hb : L2.Binds K fd ["_law_found", "_law_due"] []) : ∀ n : Nat, FnOk P w K mg base CX0 n f fd ["_law_found", "_law_due"] (spSame n)
  | 0 => by
    have no : ∀ vs H Q E, ¬ spSame 0 vs H Q E := fun vs H Q E h => by
      obtain ⟨_, _, _, h, _⟩ := h
      exact h
    exact ⟨fun vs H Q E h => absurd h (no vs H Q E), fun A outer s H args us vs Q E _ _ _ _ h => absurd h (no vs H Q E)⟩
  | n + 1 => ok_same_step B ⟨f, fd, ok_same B F hm hb n, hm, F.kp, hb⟩ F
/-! ### _law_step, _law_gone_through -/
abbrev sStep : Stmt := topS 59
abbrev nStep : List Str := ["_law_pals_here", "_law_stand", "_law_gone", "_law_deed", "_law_met"]
theorem scStep : FnScope nStep nStep (defScope sStep) := ⟨rfl, rfl, rfl, by decide +kernel, rfl, by decide +kernel, by decide +kernel⟩
theorem ok_step {f : Addr} {fd : FuncData} (B : Blt mg) (CC : Cal P w K mg base 2 "_law_come" ["_law_pals_here", "_law_stand", "_law_name"] spCome) (F : Fun K "_law_step" "_law_step" sStep f fd) : FnOk P w K mg base CX0 3 f fd nStep spStep := by
  refine fok F scStep (fun vs H Q E h => ?_) (fun cdv A outer s H vs Q E hr h => ?_)
  · obtain ⟨a, t, g, d, m, ps, st, gn, met, dd, rfl, _⟩ := h
    rfl
  obtain ⟨a, t, g, d, m, ps, st, gn, met, dd, rfl, ha, hpo, ht, hg, hd, hm, gst, gd, lt, lg, qn, qs⟩ := h
  refine ⟨_, pss_cons (ps_if (pt_cmpR (op_eqT hr.units) (pv 3) (pe_tupF (pa_cons pe_str pa_nil)) (nomark _)) (pss_one (ps_ret (pe_ifExp (pt_cmpR (op_neT hr.units) (pv 1) (pe_tupF pa_nil) (nomark _)) (pe_tup (pa_cons (pe_slice sl_tupM (pv 1) (po_some pe_int) po_none) (pa_cons (pe_op op_catM (pv 2) (pe_slice sl_tupM (pv 1) po_none (po_some pe_int))) pa_nil))) pe_non))) pss_nil)
    (pss_cons (ps_if (PW.pt (pw_or (pt_not (pt_val (pe_callB call_isi (by rfl) B.isinstance (by decide +kernel) (pa_cons (pv 3) (pa_cons (pe_bltn (v := .ty "tuple") (by rfl) B.tuple (by decide +kernel) rfl) pa_nil))))) (pw_or (pt_cmpR op_ne (pe_callB call_len_seq (by rfl) B.len PySem.boot_len (pa_cons (pv 3) pa_nil)) pe_int (nomark _)) (pw_or (pt_cmpR op_ne (pe_ix ix_tup (pv 3) pe_int (fun _ _ => rfl)) pe_str (nomark _)) (pw_or1 (pt_not (pt_val (pe_callB call_isi (by rfl) B.isinstance (by decide +kernel) (pa_cons (pe_ix ix_tup (pv 3) pe_int (fun _ _ => rfl)) (pa_cons (pe_bltn (v := .ty "str") (by rfl) B.str (by decide +kernel) rfl) pa_nil)))))))))) (pss_one (ps_ret pe_non)) pss_nil)
    (pss_one (ps_ret (pe_ifExp (pt_cmpR op_in_seq (pe_ix ix_tup (pv 3) pe_int (fun _ _ => rfl)) (pv 4) (by rfl)) pe_non (pe_tup (pa_cons (pe_cal CC hr (pa_cons (pv 0) (pa_cons (pv 1) (pa_cons (pe_ix ix_tup (pv 3) pe_int (fun _ _ => rfl)) pa_nil)))) (pa_cons (pv 2) pa_nil))))))), ?_⟩
  refine ⟨.ref d, rfl, (by show 1 ≤ sizeLine; decide), fun p0 H0 s0 n0 t0 => ?_⟩
  have gsv : Goods ["serve"] := fun x hx => by rw [List.mem_singleton.mp hx]; exact good_serve
  cases dd with
  | none =>
    refine ⟨d, p0, ["serve"], ["serve"], rfl, rfl, hd.same s0, t0, gsv, gsv, _, rfl, ?_⟩
    rw [decide_eq_true rfl]
    refine ⟨.ref t, rfl, (by show 0 ≤ sizeLine; decide), fun p1 H1 s1 n1 t1 => ?_⟩
    have s01 := s0.trans s1
    refine ⟨t, p1, st, [], rfl, rfl, ht.same s01, t1, gst, (fun _ h => nomatch h), _, rfl, ?_⟩
    refine ite2 (fun c => ?_) (fun c => ?_)
    · have ne : st ≠ [] := by
        have : (!decide (st = [])) = true := c
        simpa using this
      refine ⟨.ref t, rfl, _, rfl, t, _, rfl, ht.same s01, fun t2 H2 s2 e2 => ?_⟩
      rw [cutV_map, show (1 : Int) = ((1 : Nat) : Int) from rfl, cutL_from] at e2
      have s02 := s01.trans s2
      refine ⟨.ref g, rfl, .ref t, rfl, _, rfl, t, _, rfl, ht.same s02, fun t3 H3 s3 e3 => ?_⟩
      rw [cutV_map, show (1 : Int) = ((1 : Nat) : Int) from rfl, cutL_to] at e3
      have s03 := s02.trans s3
      refine ⟨g, t3, _, _, rfl, rfl, hg.same s03, e3, ?_, fun t4 H4 s4 e4 => ?_⟩
      · rw [List.length_map, List.length_map, List.length_take]
        exact small_le (by omega)
      refine ⟨(by show 2 ≤ sizeLine; decide), fun T hT => ?_⟩
      have s5 := same_upd (o := .tup [.ref t2, .ref t4]) hT
      refine qs T t2 t4 (st.drop 1) (gn ++ st.take 1) _ ((s03.trans s4).trans s5) ?_ upd_same (((e2.same s3).same s4).same s5) ?_
      · show (if st = [] then none else some (st.drop 1, gn ++ st.take 1)) = _
        rw [if_neg ne]
      · rw [List.map_append]
        exact e4.same s5
    · have e : st = [] := by
        have h : ¬ (!decide (st = [])) = true := c
        simpa using h
      refine qn H1 s01 ?_
      show (if st = [] then none else some (st.drop 1, gn ++ st.take 1)) = _
      rw [if_pos e]
  | some x =>
    have gx := gd x rfl
    have gcx : Goods ["come", x] := fun y hy => by
      rcases List.mem_cons.mp hy with z | z
      · rw [z]
        exact good_come
      · rw [List.mem_singleton.mp z]
        exact gx
    refine ⟨d, p0, ["come", x], ["serve"], rfl, rfl, hd.same s0, t0, gcx, gsv, _, rfl, ?_⟩
    rw [decide_eq_false (show ¬ (["come", x] : List Str) = (["serve"] : List Str) from fun z => by have := congrArg List.length z; cases this)]
    have d0 := hd.same s0
    refine ⟨.ref d, rfl, _, _, _, _, true, rfl, .ty _, TupX.ty (.inr d0), kit_ty (by decide +kernel), true, rfl, ?_⟩
    refine ⟨.ref d, rfl, d, _, rfl, .inr d0.sq, rfl, _, rfl, ?_⟩
    refine ⟨.ref d, rfl, d, _, 0, .str "come", rfl, rfl, d0.sq, atI_nat (j := 0) rfl, rfl, _, rfl, ?_⟩
    rw [decide_eq_true rfl]
    refine ⟨.ref d, rfl, d, _, 1, .str x, rfl, rfl, d0.sq, atI_nat (j := 1) rfl, _, _, _, _, true, rfl, .ty _, .base (.str x), kit_ty (by decide +kernel), true, rfl, ?_⟩
    have m0 := s0 _ _ hm
    refine ⟨.ref d, rfl, d, _, 1, .str x, rfl, rfl, d0.sq, atI_nat (j := 1) rfl, .ref m, rfl, m, _, rfl, .inl (.inl (.inl m0)), rfl, flat_strs _, _, rfl, ?_⟩
    rw [inV_strs]
    refine ite2 (fun c => ?_) (fun c => ?_)
    · have mx : x ∈ met := of_decide_eq_true c
      refine qn H0 s0 ?_
      show (if x ∈ met then none else some (comeTo ps st x, gn)) = _
      rw [if_pos mx]
    · have nx : x ∉ met := fun z => c (decide_eq_true z)
      refine ⟨_, rfl, _, rfl, .ref d, rfl, d, _, 1, .str x, rfl, rfl, d0.sq, atI_nat (j := 1) rfl, a, t, ps, st, x, rfl, ha.same s0, hpo, ht.same s0, gst, gx, lt, fun t2 H2 s2 e2 => ?_⟩
      refine ⟨.ref g, rfl, (by show 2 ≤ sizeLine; decide), fun T hT => ?_⟩
      have s3 := same_upd (o := .tup [.ref t2, .ref g]) hT
      have s03 := (s0.trans s2).trans s3
      refine qs T t2 g (comeTo ps st x) gn _ s03 ?_ upd_same (e2.same s3) (hg.same s03)
      show (if x ∈ met then none else some (comeTo ps st x, gn)) = _
      rw [if_neg nx]
abbrev sThrough : Stmt := topS 60
abbrev nThrough : List Str := ["_law_pals_here", "_law_olds", "_law_deeds", "_law_stand", "_law_gone", "_law_met", "_law_deed", "_law_found"]
theorem scThrough : FnScope nThrough ["_law_pals_here", "_law_olds", "_law_deeds"] (defScope sThrough) := ⟨rfl, rfl, rfl, by decide +kernel, rfl, by decide +kernel, by decide +kernel⟩
theorem ok_through {f : Addr} {fd : FuncData} (B : Blt mg) (CS : Cal P w K mg base 3 "_law_step" nStep spStep) (F : Fun K "_law_gone_through" "_law_gone_through" sThrough f fd) : FnOk P w K mg base CX0 4 f fd ["_law_pals_here", "_law_olds", "_law_deeds"] spThrough := by
  refine fok F scThrough (fun vs H Q E h => ?_) (fun cdv A outer s H vs Q E hr h => ?_)
  · obtain ⟨a, t, p, ps, olds, ds, rfl, _⟩ := h
    rfl
  obtain ⟨a, t, p, ps, olds, ds, rfl, ha, hpo, ht, go, hp, hd, gd, ln, qn, qs⟩ := h
  refine ⟨_, pss_cons (ps_par3 (i := 3) (j := 4) (l := 5) (by rfl) scThrough.nd rfl rfl rfl (by decide) (by decide) (by decide) rfl rfl rfl (pa_cons (pe_callTy call_tupRow (by rfl) B.tuple (by decide +kernel) (pa_cons (pv 1) pa_nil)) (pa_cons (pe_tupF pa_nil) (pa_cons (pe_callTy call_listRow (by rfl) B.list (by decide +kernel) (pa_cons (pv 1) pa_nil)) pa_nil))) (by rfl))
    (pss_cons (ps_for PassesOwn.never rfl (pi_list (pv 2)) (pg_name (i := 6) scThrough.nd rfl (.inl rfl))
      (pss_cons (ps_set (i := 7) scThrough.nd rfl (.inl rfl) (pe_cal CS hr (pa_cons (pv 0) (pa_cons (pv 3) (pa_cons (pv 4) (pa_cons (pv 6) (pa_cons (pv 5) pa_nil)))))))
      (pss_cons (ps_if (pt_cmp (pc_isN (pv 7))) (pss_one (ps_ret pe_non)) pss_nil)
      (pss_cons (ps_asg (pv 7) (pg_tup rfl (pgs_cons (pg_name (i := 3) scThrough.nd rfl (.inl rfl)) (pgs_cons (pg_name (i := 4) scThrough.nd rfl (.inl rfl)) pgs_nil))))
      (pss_one (ps_set (i := 5) scThrough.nd rfl (.inl rfl) (pe_op op_cat (pv 5) (pe_callTy call_list_of (by rfl) B.list (by decide +kernel) (pa_cons (pe_slice sl_tupM (pv 6) (po_some pe_int) po_none) pa_nil)))))))))
    (pss_one (ps_ret (pe_tup (pa_cons (pv 4) (pa_cons (pv 3) pa_nil)))))), ?_⟩
  refine ⟨.ref t, rfl, t, olds, rfl, ht, fun t1 H1 s1 e1 => ?_⟩
  refine ⟨(by show 0 ≤ sizeLine; decide), fun g1 H2 s2 n2 e2 => ?_⟩
  have s02 := s1.trans s2
  refine ⟨.ref t, rfl, t, olds, rfl, ht.same s02, fun m1 hm1 => ?_⟩
  have s3 := same_upd (o := .lst (olds.map V.str)) hm1
  have s04 := s02.trans s3
  refine ⟨_, _, _, rfl, .ref p, rfl, p, rfl, ⟨_, .inl (.inl (s04 _ _ hp))⟩, ?_⟩
  refine for_it (walk_list (xs := refsD ds)) (fun i σ H' => ∃ (t' g' m' : Addr) (st gn : List Str) (y6 y7 : Option V), σ = [some (.ref a), some (.ref t), some (.ref p), some (.ref t'), some (.ref g'), some (.ref m'), y6, y7] ∧ Same H H' ∧ TupAt H' t' (st.map V.str) ∧ TupAt H' g' (gn.map V.str) ∧ H' m' = some (.lst ((olds ++ comers ((ds.take i).map (·.2))).map V.str)) ∧ goD ps ((ds.take i).map (·.2)) (olds, []) olds = some (st, gn)) ?_ ?_ ?_ ?_
  · refine ⟨t1, g1, m1, olds, [], _, _, rfl, s04, (e1.same s2).same s3, e2.same s3, ?_, rfl⟩
    rw [show olds ++ comers ((ds.take 0).map (·.2)) = olds from List.append_nil olds]
    exact upd_same
  · rintro i σ H' _ ⟨t', g', m', st, gn, y6, y7, _, sx, _⟩
    exact .inl (.inl (sx _ _ hp))
  · rintro i v σ H6 H5 hi ⟨t', g', m', st, gn, y6, y7, rfl, s5, t5, g5, m5, go5⟩ ⟨rfl, ex⟩
    obtain ⟨c, hc, rfl⟩ := at_map (show (ds.map fun q => V.ref q.1)[i]? = some v from ex)
    have mc := List.mem_of_getElem? hc
    have hil : i < ds.length := (List.getElem?_eq_some_iff.mp hc).1
    have pm := go_perm _ _ _ _ go5
    have pl := pm.length_eq
    have cl : (comers ((ds.take i).map (·.2))).length ≤ ds.length := by
      unfold comers
      refine Nat.le_trans (List.length_filterMap_le _ _) ?_
      rw [List.length_map, List.length_take]
      omega
    have pl' : gn.length + st.length = (comers ((ds.take i).map (·.2))).length + (0 + olds.length) := by
      rw [List.length_append, List.length_append, List.length_append] at pl
      exact pl
    have mg : ∀ y ∈ comers ((ds.take i).map (·.2)), Good y := fun y hy => by
      unfold comers at hy
      obtain ⟨o, ho, eo⟩ := List.mem_filterMap.mp hy
      obtain ⟨qd, hq, rfl⟩ := List.mem_map.mp ho
      exact gd qd (List.mem_of_mem_take hq) y eo
    have gall : ∀ y ∈ gn ++ st, Good y := fun y hy => by
      rcases List.mem_append.mp (pm.mem_iff.mp hy) with z | z
      · exact mg y z
      · exact go y (by simpa using z)
    have tk : (ds.take (i + 1)).map (·.2) = (ds.take i).map (·.2) ++ [c.2] := by
      rw [List.take_add_one, hc, List.map_append]
      rfl
    have gs := goD_snoc ps c.2 ((ds.take i).map (·.2)) (olds, []) olds
    rw [go5] at gs
    have gs' : goD ps ((ds.take i).map (·.2) ++ [c.2]) (olds, []) olds = stepD ps (st, gn) (olds ++ comers ((ds.take i).map (·.2))) c.2 := gs
    refine ⟨_, rfl, _, rfl, _, rfl, _, rfl, _, rfl, a, t', g', c.1, m', ps, st, gn, _, c.2, rfl, ha.same s5, hpo, t5, g5, (hd c mc).same s5, m5, (fun y hy => gall y (List.mem_append_right _ hy)), gd c mc, by omega, by omega, ?_, ?_⟩
    · intro H7 s7 no
      refine ⟨_, rfl, _, rfl, ?_⟩
      refine qn H7 (s5.trans s7) ?_
      -- what follows cannot mend it
      have key : ∀ (more : List Deed), goD ps ((ds.take (i + 1)).map (·.2) ++ more) (olds, []) olds = none := by
        intro more
        rw [tk]
        exact go_none (gs'.trans no) more
      have e : ds.map (·.2) = (ds.take (i + 1)).map (·.2) ++ (ds.drop (i + 1)).map (·.2) := by rw [← List.map_append, List.take_append_drop]
      rw [e]
      exact key _
    · intro T2 t2 g2 st' gn' H7 s7 yes eT e2' e3'
      refine ⟨_, rfl, _, rfl, ?_⟩
      refine ⟨_, rfl, T2, _, rfl, .inl (.inl eT), rfl, _, _, rfl, _, _, rfl, rfl, ?_⟩
      have c7 := ((hd c mc).same s5).same s7
      refine ⟨.ref m', rfl, .ref c.1, rfl, _, rfl, c.1, _, rfl, c7, fun sl H8 s8 e8 => ?_⟩
      rw [cutV_map, show (1 : Int) = ((1 : Nat) : Int) from rfl, cutL_from] at e8
      refine ⟨sl, _, rfl, .inr e8.sq, fun l9 hl9 => ?_⟩
      have s9 := same_upd (o := .lst (((deedL c.2).drop 1).map V.str)) hl9
      have m9 := s9 _ _ (s8 _ _ (s7 _ _ m5))
      have dl : (deedL c.2).drop 1 = c.2.toList := by
        cases c.2 <;> rfl
      refine ⟨m', l9, _, _, rfl, rfl, m9, upd_same, ?_, fun l10 hl10 => ?_⟩
      · rw [List.length_map, List.length_map, List.length_append, dl]
        have : c.2.toList.length ≤ 1 := by cases c.2 <;> simp
        exact small_le (by omega)
      have s10 := same_upd (o := .lst ((olds ++ comers ((ds.take i).map (·.2))).map V.str ++ ((deedL c.2).drop 1).map V.str)) hl10
      have s710 := (s8.trans s9).trans s10
      refine ⟨t2, g2, l10, st', gn', _, _, rfl, (s5.trans s7).trans s710, e2'.same s710, e3'.same s710, ?_, ?_⟩
      · rw [upd_same, tk, comers_snoc, dl]
        simp only [List.map_append, List.append_assoc]
      · rw [tk]
        exact gs'.trans yes
  · rintro σ H5 ⟨t', g', m', st, gn, y6, y7, rfl, s5, t5, g5, m5, go5⟩
    have rl : (refsD ds).length = ds.length := by unfold refsD; rw [List.length_map]
    rw [rl, List.take_of_length_le (Nat.le_refl _)] at go5
    refine ⟨_, rfl, _, rfl, (by show 2 ≤ sizeLine; decide), fun T2 hT2 => ?_⟩
    have s6 := same_upd (o := .tup [.ref g', .ref t']) hT2
    exact qs T2 t' g' st gn _ (s5.trans s6) go5 upd_same (t5.same s6) (g5.same s6)
/-! ### _law_spoilt -/
abbrev sSpoilt : Stmt := topS 62
abbrev nSpoilt : List Str := ["_law_box_here", "_law_olds", "_law_gone", "_law_stand", "_law_whole", "_law_turn", "_law_spot"]
abbrev pSpoilt : List Str := ["_law_box_here", "_law_olds", "_law_gone", "_law_stand"]
theorem scSpoilt : FnScope nSpoilt pSpoilt (defScope sSpoilt) := ⟨rfl, rfl, rfl, by decide +kernel, rfl, by decide +kernel, by decide +kernel⟩
-- slots: 0:box_here 1:olds 2:gone 3:stand 4:whole 5:turn 6:spot
theorem ok_spoilt {f : Addr} {fd : FuncData} (B : Blt mg) (CT : Cal P w K mg base 1 "_law_take" ["_law_box_here", "_law_many"] spTake) (F : Fun K "_law_spoilt" "_law_spoilt" sSpoilt f fd) : FnOk P w K mg base CX0 2 f fd pSpoilt spSpoilt := by
  refine fok F scSpoilt (fun vs H Q E h => ?_) (fun cdv A outer s H vs Q E hr h => ?_)
  · obtain ⟨b, e, g, t, olds, gone, stand, rfl, _⟩ := h
    rfl
  have hu := hu_of hr
  refine ⟨_, pss_cons (ps_set (i := 4) scSpoilt.nd rfl (.inl rfl) (pe_callTy call_list_of (by rfl) B.list (by decide +kernel) (pa_cons (pe_op op_catM (pv 2) (pv 3)) pa_nil)))
    (pss_cons (ps_for PassesOwn.never rfl (pi_range1 (by rfl) B.range (pa_cons (pe_cal CT hr (pa_cons (pv 0) (pa_cons pe_int pa_nil))) pa_nil)) (pg_name (i := 5) scSpoilt.nd rfl (.inl rfl))
      (pss_cons (ps_set (i := 6) scSpoilt.nd rfl (.inl rfl) (pe_cal CT hr (pa_cons (pv 0) (pa_cons (pe_callB (call_max2 rfl) (by rfl) B.max (by decide +kernel) (pa_cons pe_int (pa_cons (pe_op op_sub (pe_callB call_len_seq (by rfl) B.len PySem.boot_len (pa_cons (pv 4) pa_nil)) pe_int) pa_nil))) pa_nil))))
        (pss_one (ps_if (PW.pt (pw_and (pt_cmpR op_gt (pe_callB call_len_seq (by rfl) B.len PySem.boot_len (pa_cons (pv 4) pa_nil)) pe_int (nomark _)) (pw_and1 (pt_not (PW.pt (pw_and (pt_cmpR op_in_seq (pe_ix ix_list (pv 4) (pv 6) (fun _ _ => rfl)) (pv 1) (by rfl)) (pw_and1 (pt_cmpR op_in_seq (pe_ix ix_list (pv 4) (pe_op op_add (pv 6) pe_int) (fun _ _ => rfl)) (pv 1) (by rfl)))))))))
          (pss_one (ps_set (i := 4) scSpoilt.nd rfl (.inl rfl) (pe_op op_cat (pe_op op_cat (pe_slice sl_list (pv 4) po_none (po_some (pv 6))) (pe_lst (pa_cons (pe_ix ix_list (pv 4) (pe_op op_add (pv 6) pe_int) (fun _ _ => rfl)) (pa_cons (pe_ix ix_list (pv 4) (pv 6) (fun _ _ => rfl)) pa_nil)))) (pe_slice sl_list (pv 4) (po_some (pe_op op_add (pv 6) pe_int)) po_none))))
          pss_nil))))
    (pss_one (ps_ret (pe_tup (pa_cons (pe_callTy call_tupleF (by rfl) B.tuple (by decide +kernel) (pa_cons (pe_slice sl_list (pv 4) po_none (po_some (pe_callB call_len_seq (by rfl) B.len PySem.boot_len (pa_cons (pv 2) pa_nil)))) pa_nil)) (pa_cons (pe_callTy call_tupleF (by rfl) B.tuple (by decide +kernel) (pa_cons (pe_slice sl_list (pv 4) (po_some (pe_callB call_len_seq (by rfl) B.len PySem.boot_len (pa_cons (pv 2) pa_nil))) po_none) pa_nil)) pa_nil)))))), ?_⟩
  obtain ⟨b, e, g, t, olds, gone, stand, rfl, hb, he, hg, ht, hn, q⟩ := h
  refine ⟨.ref g, rfl, .ref t, rfl, g, t, _, _, rfl, rfl, hg, ht, ?_, fun w1 H1 s1 e1 => ?_⟩
  · rw [List.length_map, List.length_map]
    exact small_le (by omega)
  rw [← List.map_append] at e1
  refine ⟨w1, _, rfl, .inr e1.sq, fun wa hwa => ?_⟩
  have s2 := same_upd (o := .lst ((gone ++ stand).map V.str)) hwa
  have s02 := s1.trans s2
  have b2 := hb.same s02
  have nwb : wa ≠ b := (hb.same s1).ne_none hwa
  refine ⟨_, rfl, b, _, rfl, b2, by omega, by omega, fun v H3 o3 b3 v0 v1 => ?_⟩
  refine ⟨_, rfl, by omega, by omega, ?_⟩
  refine for_it (walk_range (lo := 0) (n := v.toNat)) (fun k σ H' => ∃ (cu : Addr) (cur : List Str) (y5 y6 : Option V), σ = [some (.ref b), some (.ref e), some (.ref g), some (.ref t), some (.ref cu), y5, y6] ∧ Oth b H H' ∧ IsBox H' b ∧ cu ≠ b ∧ H' cu = some (.lst (cur.map V.str)) ∧ cur.Perm (gone ++ stand) ∧ (cur.filter fun x => decide (x ∈ olds)) = ((gone ++ stand).filter fun x => decide (x ∈ olds))) ?_ (fun _ _ _ _ _ => trivial) ?_ ?_
  · exact ⟨wa, gone ++ stand, _, _, rfl, (Oth.of s02).trans o3, b3, nwb, o3 _ _ nwb upd_same, List.Perm.refl _, rfl⟩
  · rintro k v' σ H4 H5 hk ⟨cu, cur, y5, y6, rfl, o5, b5, ncb, c5, pm, ft⟩ ⟨rfl, rfl⟩
    have lc : cur.length = gone.length + stand.length := by rw [pm.length_eq, List.length_append]
    refine ⟨_, rfl, _, rfl, cu, _, rfl, .inl (.inl (.inl c5)), _, _, rfl, rfl, _, _, rfl, ?_⟩
    rw [List.length_map]
    refine ⟨b, _, rfl, b5, ?_, ?_, fun sp H6 o6 b6 sp0 sp1 => ?_⟩
    · split <;> omega
    · split <;> omega
    have c6 := o6 _ _ ncb c5
    have he6 := (he.oth o5 hb).oth o6 b5
    refine ⟨_, rfl, cu, _, rfl, .inl (.inl (.inl c6)), _, _, rfl, rfl, _, rfl, ?_⟩
    rw [List.length_map]
    refine ite2 (fun c => ?_) (fun c => ?_)
    · have c' : 1 < cur.length := by
        have := of_decide_eq_true c
        omega
      have sl : sp.toNat + 1 < cur.length := by
        have : sp < (cur.length : Int) - 1 := by
          refine Int.lt_of_lt_of_le sp1 ?_
          split <;> omega
        omega
      obtain ⟨i, rfl⟩ : ∃ i : Nat, sp = (i : Int) := ⟨sp.toNat, by omega⟩
      have hx : cur[i]? = some (cur[i]'(by omega)) := List.getElem?_eq_getElem _
      have hy : cur[i + 1]? = some (cur[i + 1]'(by omega)) := List.getElem?_eq_getElem _
      generalize cur[i]'(by omega) = x at hx
      generalize cur[i + 1]'(by omega) = y at hy
      have i1 : ((i : Int) + 1) = ((i + 1 : Nat) : Int) := rfl
      refine ⟨.ref cu, rfl, _, rfl, cu, _, _, _, rfl, rfl, .inl (.inl c6), atI_nat (ix_map hx), ?_⟩
      refine ⟨.ref e, rfl, e, _, rfl, he6.sq, rfl, flat_strs _, _, rfl, ?_⟩
      rw [inV_strs]
      refine ite2 (fun cx => ?A) (fun cx => ?B)
      case' A =>
        refine ⟨.ref cu, rfl, _, rfl, _, _, rfl, rfl, cu, _, _, .str y, rfl, rfl, .inl (.inl c6), (by rw [i1]; exact atI_nat (ix_map hy)), ?_⟩
        refine ⟨.ref e, rfl, e, _, rfl, he6.sq, rfl, flat_strs _, _, rfl, ?_⟩
        rw [inV_strs]
        refine ite2 (fun cy => ?_) (fun cy => ⟨cu, cur, _, _, rfl, o5.trans o6, b6, ncb, c6, pm, ft⟩)
        have nb : ¬ (decide (x ∈ olds) = true ∧ decide (y ∈ olds) = true) := fun z => by
          rw [z.2] at cy
          cases cy
      case' B =>
        have nb : ¬ (decide (x ∈ olds) = true ∧ decide (y ∈ olds) = true) := fun z => cx z.1
      all_goals
        refine ⟨.ref cu, rfl, _, rfl, _, rfl, cu, _, rfl, .inl (.inl c6), fun l1 hl1 => ?_⟩
        rw [cutV_map, cutL_to]
        have s7 := same_upd (o := .lst ((cur.take i).map V.str)) hl1
        refine ⟨.ref cu, rfl, _, rfl, _, _, rfl, rfl, cu, _, _, .str y, rfl, rfl, .inl (.inl (s7 _ _ c6)), (by rw [i1]; exact atI_nat (ix_map hy)), .ref cu, rfl, _, rfl, cu, _, _, .str x, rfl, rfl, .inl (.inl (s7 _ _ c6)), atI_nat (ix_map hx), (by show 2 ≤ sizeLine; decide), fun p2 hp2 => ?_⟩
        have s8 := same_upd (o := .lst [.str y, .str x]) hp2
        refine ⟨l1, p2, _, _, rfl, rfl, s8 _ _ upd_same, upd_same, ?_, fun p3 hp3 => ?_⟩
        · rw [List.length_map, List.length_take]
          exact small_le (by show _ + 2 ≤ 1000; omega)
        have s9 := same_upd (o := .lst ((cur.take i).map V.str ++ [.str y, .str x])) hp3
        have s69 := (s7.trans s8).trans s9
        refine ⟨.ref cu, rfl, _, rfl, _, _, rfl, rfl, _, rfl, cu, _, rfl, .inl (.inl (s69 _ _ c6)), fun l6 hl6 => ?_⟩
        rw [cutV_map, show ((i : Int) + 2) = ((i + 2 : Nat) : Int) from rfl, cutL_from]
        have s10 := same_upd (o := .lst ((cur.drop (i + 2)).map V.str)) hl6
        refine ⟨p3, l6, _, _, rfl, rfl, s10 _ _ upd_same, upd_same, ?_, fun p7 hp7 => ?_⟩
        · rw [List.length_append, List.length_map, List.length_map, List.length_take, List.length_drop]
          exact small_le (by show _ + 2 + _ ≤ 1000; omega)
        have s610 := (s69.trans s10).trans (same_upd (o := .lst ((cur.take i).map V.str ++ [.str y, .str x] ++ (cur.drop (i + 2)).map V.str)) hp7)
        refine ⟨p7, swapL cur i x y, _, _, rfl, (o5.trans o6).trans (.of s610), b6.same s610, (b6.same (s69.trans s10)).ne_none hp7, ?_, (swap_perm hx hy).trans pm, (swap_filter hx hy nb).trans ft⟩
        rw [upd_same]
        unfold swapL
        rw [List.map_append, List.map_append]
        rfl
    · exact ⟨cu, cur, _, _, rfl, o5.trans o6, b6, ncb, c6, pm, ft⟩
  · rintro σ H4 ⟨cu, cur, y5, y6, rfl, o4, b4, ncb, c4, pm, ft⟩
    have lc : cur.length = gone.length + stand.length := by rw [pm.length_eq, List.length_append]
    have hg4 := hg.oth o4 hb
    refine ⟨.ref cu, rfl, .ref g, rfl, g, _, rfl, .inr hg4.sq, _, rfl, cu, _, rfl, .inl (.inl c4), fun l1 hl1 => ?_⟩
    rw [List.length_map, cutV_map, cutL_to]
    have s5 := same_upd (o := .lst ((cur.take gone.length).map V.str)) hl1
    refine ⟨l1, _, rfl, .inl ⟨.inl (.inl upd_same), fun t1 H5 s6 n6 t6 => ?_⟩⟩
    have s46 := s5.trans s6
    refine ⟨.ref cu, rfl, .ref g, rfl, g, _, rfl, .inr (hg4.same s46).sq, _, rfl, cu, _, rfl, .inl (.inl (s46 _ _ c4)), fun l2 hl2 => ?_⟩
    rw [List.length_map, cutV_map, cutL_from]
    have s7 := same_upd (o := .lst ((cur.drop gone.length).map V.str)) hl2
    refine ⟨l2, _, rfl, .inl ⟨.inl (.inl upd_same), fun t2 H6 s8 n8 t8 => ?_⟩⟩
    refine ⟨(by show 2 ≤ sizeLine; decide), fun T hT => ?_⟩
    have s9 := same_upd (o := .tup [.ref t1, .ref t2]) hT
    have s49 := ((s46.trans s7).trans s8).trans s9
    refine q T t1 t2 (cur.take gone.length) (cur.drop gone.length) _ (o4.trans (.of s49)) (b4.same s49) upd_same (((t6.same s7).same s8).same s9) (t8.same s9) ?_ ?_ ?_
    · rw [List.length_take]
      omega
    · rw [List.take_append_drop]
      exact pm
    · rw [List.take_append_drop]
      exact ft
/-! ### both_ways -/
abbrev sBoth : Stmt := topS 10
abbrev nBoth : List Str := ["friends", "known", "one", "other"]
theorem scBoth : FnScope nBoth ["friends"] (defScope sBoth) := ⟨rfl, rfl, rfl, by decide +kernel, rfl, by decide +kernel, by decide +kernel⟩
theorem ok_both {f : Addr} {fd : FuncData} (F : Fun K "both_ways" "both_ways" sBoth f fd) : FnOk P w K mg base CX0 1 f fd ["friends"] spBoth := by
  refine fok F scBoth (fun vs H Q E h => ?_) (fun cdv A outer s H vs Q E hr h => ?_)
  · obtain ⟨a, ps, rfl, _⟩ := h
    rfl
  obtain ⟨a, ps, rfl, ⟨bs, ha, hp, rfl⟩, hn, q⟩ := h
  rw [List.length_map] at hn
  have hu := hu_of hr
  refine ⟨_, pss_cons (ps_set (i := 1) scBoth.nd rfl (.inl rfl) pe_dnewT)
    (pss_cons (ps_for PassesOwn.never rfl (pi_or2 (pi_list (pv 0)) (pi_tup (pv 0))) (pg_orM (pg_tup rfl (pgs_cons (pg_name (i := 2) scBoth.nd rfl (.inl rfl)) (pgs_cons (pg_name (i := 3) scBoth.nd rfl (.inl rfl)) pgs_nil))) (pg_unl rfl (pgs_cons (pg_name (i := 2) scBoth.nd rfl (.inl rfl)) (pgs_cons (pg_name (i := 3) scBoth.nd rfl (.inl rfl)) pgs_nil))))
      (pss_cons (ps_dput hu (pv 1) (pe_tup (pa_cons (pv 2) (pa_cons (pv 3) pa_nil))) pe_bl rfl)
      (pss_one (ps_dput hu (pv 1) (pe_tup (pa_cons (pv 3) (pa_cons (pv 2) pa_nil))) pe_bl rfl))))
    (pss_one (ps_ret (pv 1)))), ?_⟩
  refine fun d hd => ?_
  have s0 : Same H (upd H d (.dT [])) := same_upd hd
  have Pv : ∃ Pv : Nat → L2.St → Hp → Prop, Pv = fun i σ H' => ∃ (y2 y3 : Option V) (kvs : List (List Key × V)), σ = [some (.ref a), some (.ref d), y2, y3] ∧ Same H H' ∧ H' d = some (.dT kvs) ∧ kvs.length ≤ 2 * i ∧ ∀ x y, (valV kvs (k2 x y)).isSome = frd ((bs.map (·.2)).take i) x y := ⟨_, rfl⟩
  obtain ⟨Pv, hPv⟩ := Pv
  have start : Pv 0 [some (.ref a), some (.ref d), none, none] (upd H d (.dT [])) := by
    rw [hPv]
    exact ⟨_, _, [], rfl, s0, upd_same, Nat.zero_le _, fun x y => rfl⟩
  have turn : ∀ (i : Nat) (c : B3) (σ : L2.St) (H1 : Hp), bs[i]? = some c → Pv i σ H1 → ∀ (D : Ends), D.nx = Pv (i + 1) →
      (tSeq (sDPut (tVar 1) (tTup (tCons (tVar 2) (tCons (tVar 3) tNil))) (tC (.bl true))) (sDPut (tVar 1) (tTup (tCons (tVar 3) (tCons (tVar 2) tNil))) (tC (.bl true)))) D ((σ.set 2 (some (.str c.2.1))).set 3 (some (.str c.2.2))) H1 := by
    intro i c σ H1 hc pv D hD
    rw [hPv] at pv
    obtain ⟨y2, y3, kvs, rfl, s1, e1, l1, v1⟩ := pv
    have hi : i < bs.length := (List.getElem?_eq_some_iff.mp hc).1
    refine ⟨_, rfl, _, rfl, _, rfl, (by show 2 ≤ sizeLine; decide), fun p hp' => ?_⟩
    have n1 : d ≠ p := ne_of_none e1 hp'
    have e2 : upd H1 p (.tup [.str c.2.1, .str c.2.2]) d = some (.dT kvs) := (upd_ne n1).trans e1
    refine ⟨d, _, rfl, DPut.t (k := k2 c.2.1 c.2.2) e2 upd_same (small9 (by omega)), ?_⟩
    have pl := putK_len (kvs := kvs) (k := k2 c.2.1 c.2.2) (v := V.bl true)
    refine ⟨_, rfl, _, rfl, _, rfl, (by show 2 ≤ sizeLine; decide), fun p2 hp2 => ?_⟩
    have n2 : d ≠ p2 := fun z => by rw [← z, upd_same] at hp2; cases hp2
    refine ⟨d, _, rfl, DPut.t (k := k2 c.2.2 c.2.1) ((upd_ne n2).trans upd_same) upd_same (small9 (by omega)), ?_⟩
    have pl2 := putK_len (kvs := putK kvs (k2 c.2.1 c.2.2) (V.bl true)) (k := k2 c.2.2 c.2.1) (v := V.bl true)
    rw [hD, hPv]
    refine ⟨_, _, _, rfl, fun b o e => ?_, upd_same, by omega, fun x y => ?_⟩
    · have nb : b ≠ d := ne_of_none e hd
      rw [upd_ne nb]
      refine same_upd hp2 _ _ ?_
      rw [upd_ne nb]
      exact same_upd hp' _ _ (s1 _ _ e)
    · rw [both_put v1, List.take_add_one, List.getElem?_map, hc]
      rfl
  have fin : ∀ (σ : L2.St) (H1 : Hp), Pv (refs bs).length σ H1 → ∃ v, σ[1]? = some (some v) ∧ Q v H1 := by
    intro σ H1 pv
    rw [hPv] at pv
    obtain ⟨y2, y3, kvs, rfl, s1, e1, l1, v1⟩ := pv
    refine ⟨.ref d, rfl, q d H1 s1 hd ⟨kvs, e1, fun x y => ?_⟩⟩
    rw [v1, List.take_of_length_le (by show (bs.map _).length ≤ (bs.map _).length; rw [List.length_map, List.length_map]; exact Nat.le_refl _)]
  have item : ∀ (i : Nat) (v : V) (σ : L2.St) (H1 : Hp), (refs bs)[i]? = some v → Pv i σ H1 → ∃ c : B3, bs[i]? = some c ∧ v = .ref c.1 ∧ (H1 c.1 = some (.tup [.str c.2.1, .str c.2.2]) ∨ H1 c.1 = some (.lst [.str c.2.1, .str c.2.2])) := by
    intro i v σ H1 e pv
    rw [hPv] at pv
    obtain ⟨y2, y3, kvs, rfl, s1, e1, l1, v1⟩ := pv
    obtain ⟨c, hc, rfl⟩ := at_map e
    exact ⟨c, hc, rfl, (hp c (List.mem_of_getElem? hc)).imp (s1 _ _) (s1 _ _)⟩
  have stay : ∀ (i : Nat) (σ : L2.St) (H1 : Hp), Pv i σ H1 → Same H H1 := by
    intro i σ H1 pv
    rw [hPv] at pv
    obtain ⟨y2, y3, kvs, rfl, s1, _⟩ := pv
    exact s1
  rcases ha with e | e
  · refine .inr ⟨.ref a, rfl, a, rfl, ⟨_, .inl (.inl (s0 _ _ e))⟩, ?_⟩
    refine for_it (walk_tup (xs := refs bs)) Pv start (fun i σ H1 _ pv => .inl (.inl (stay i σ H1 pv _ _ e))) ?_ fin
    rintro i v σ H2 H1 hi pv ⟨rfl, e2⟩
    obtain ⟨c, hc, rfl, h3⟩ := item i v σ _ e2 pv
    rcases h3 with h3 | h3
    · exact Or.inl ⟨c.1, _, rfl, .inl (.inl h3), rfl, _, _, rfl, _, _, rfl, rfl, turn i c σ _ hc pv _ rfl⟩
    · exact Or.inr ⟨c.1, _, rfl, .inl (.inl h3), rfl, _, _, rfl, _, _, rfl, rfl, turn i c σ _ hc pv _ rfl⟩
  · refine .inl ⟨.ref a, rfl, a, rfl, ⟨_, .inl (.inl (s0 _ _ e))⟩, ?_⟩
    refine for_it (walk_list (xs := refs bs)) Pv start (fun i σ H1 _ pv => .inl (.inl (stay i σ H1 pv _ _ e))) ?_ fin
    rintro i v σ H2 H1 hi pv ⟨rfl, e2⟩
    obtain ⟨c, hc, rfl, h3⟩ := item i v σ _ e2 pv
    rcases h3 with h3 | h3
    · exact Or.inl ⟨c.1, _, rfl, .inl (.inl h3), rfl, _, _, rfl, _, _, rfl, rfl, turn i c σ _ hc pv _ rfl⟩
    · exact Or.inr ⟨c.1, _, rfl, .inl (.inl h3), rfl, _, _, rfl, _, _, rfl, rfl, turn i c σ _ hc pv _ rfl⟩
/-! ### last_friend_place -/
abbrev sLfp : Stmt := topS 11
abbrev nLfp : List Str := ["known", "row", "who", "places", "place", "other"]
theorem scLfp : FnScope nLfp ["known", "row", "who"] (defScope sLfp) := ⟨rfl, rfl, rfl, by decide +kernel, rfl, by decide +kernel, by decide +kernel⟩
theorem ok_lfp {f : Addr} {fd : FuncData} (B : Blt mg) (F : Fun K "last_friend_place" "last_friend_place" sLfp f fd) : FnOk P w K mg base CX0 1 f fd ["known", "row", "who"] spLfp := by
  refine fok F scLfp (fun vs H Q E h => ?_) (fun cdv A outer s H vs Q E hr h => ?_)
  · obtain ⟨d, r, ps, row, who, rfl, _⟩ := h
    rfl
  obtain ⟨d, r, ps, row, who, rfl, hd, hrow, hn, q⟩ := h
  have hu := hu_of hr
  refine ⟨_, pss_cons (ps_setLc (i := 3) (own := [("place", 4), ("other", 5)]) (g := gTup K 2 (gCons (gName 4) (gCons (gName 5) gNil))) (tt := tB (tDIn (tTup (tCons (tVar 2) (tCons (tVar 5) tNil))) (tVar 0))) rfl scLfp.nd rfl rfl (sw_true rfl rfl rfl (by decide +kernel)) (pi_or2 (pi_enum (by rfl) B.enumerate (pa_cons (pv 1) pa_nil)) (pi_enumT (by rfl) B.enumerate (pa_cons (pv 1) pa_nil))) (blkOk_by (N := nLfp) (sc := defScope sLfp) (by decide +kernel))
        (fun _ _ _ _ _ => pg_tup rfl (pgs_cons (pg_name (i := 4) scLfp.nd rfl (Or.inl rfl)) (pgs_cons (pg_name (i := 5) scLfp.nd rfl (Or.inl rfl)) pgs_nil)))
        (fun _ _ _ _ _ => pts_one (pt_cmp (pc_din hu (pe_tup (pa_cons (pv 2) (pa_cons (pv 5) pa_nil))) (pv 0)))) (fun _ _ _ _ _ => pv 4))
    (pss_one (ps_ret (pe_ifExp (pt_truth (pv 3) (by intro _; rfl)) (pe_ix ix_list (pv 3) (pe_un un_neg pe_int) (fun _ _ => rfl)) pe_non))), ?_⟩
  have key : ∀ (J : It) (G : Hp → Prop), Walk J (row.map V.str).length G (YPair (fun i => some (.int (i : Nat))) (fun i => (row.map V.str)[i]?)) → (∀ H', Same H H' → G H') → ∀ D, H D = none → ∀ (Qd : Hp → Prop), (∀ H' (ls : List Int), Same H H' → H' D = some (.lst (ls.map V.int)) → ls.getLast? = (lastP (frd ps who) row).map (fun k => (k : Int)) → Qd H') →
      ∃ W : Nat → Nat → Hp → Prop, (∃ m, W 0 m (upd H D (.lst []))) ∧ ∀ i m H, W i m H →
      (J.stop i H ∧ Qd H) ∨ (J.go i H ∧ ∃ Nx : Hp → Prop, (∀ H', Nx H' → ∃ m', m' < m ∧ W (i + 1) m' H') ∧ ∀ x H', J.yld i H x H' → (gTup K 2 (gCons (gName 4) (gCons (gName 5) gNil))) x (wipe [some (.ref d), some (.ref r), some (.str who), none, none, none] [4, 5]) H' fun σ2 H2 => wipe σ2 [4, 5] = wipe [some (.ref d), some (.ref r), some (.str who), none, none, none] [4, 5] ∧ (tB (tDIn (tTup (tCons (tVar 2) (tCons (tVar 5) tNil))) (tVar 0))) σ2 H2 fun b H3 =>
        if b = true then (tVar 4) σ2 H3 fun y H4 => ∃ acc, H4 D = some (.lst acc) ∧ acc.length < sizeLine ∧ Nx (upd H4 D (.lst (acc ++ [y]))) else Nx H3) := by
    intro J G wk hG D hD Qd fin
    refine lc_it wk (fun i H' => ∃ ls : List Int, Same H H' ∧ H' D = some (.lst (ls.map V.int)) ∧ ls.length ≤ i ∧ ls.getLast? = (lastP (frd ps who) (row.take i)).map (fun k => (k : Int))) ?_ ?_ ?_ ?_
    · exact ⟨[], same_upd hD, upd_same, Nat.zero_le _, rfl⟩
    · rintro i H' _ ⟨ls, s1, _⟩
      exact hG H' s1
    · rintro i v H1 H2 hi ⟨ls, s1, d1, m1, g1⟩ ⟨T, x1, x2, rfl, nT, rfl, e1, e2⟩
      cases e1
      obtain ⟨o, ho, rfl⟩ := at_map e2
      rw [List.length_map] at hi
      have s2 := s1.trans (same_upd (o := .tup [.int (i : Nat), .str o]) nT)
      refine ⟨T, _, rfl, .inl (.inl upd_same), rfl, _, _, rfl, _, _, rfl, rfl, rfl, ?_⟩
      refine ⟨_, rfl, _, rfl, (by show 2 ≤ sizeLine; decide), fun p hp => ?_⟩
      have s3 := s2.trans (same_upd (o := .tup [.str who, .str o]) hp)
      obtain ⟨kvs, k1, k3⟩ := hd.same s3
      have nDT : D ≠ T := ne_of_none d1 nT
      have d2 : upd H1 T (.tup [.int (i : Nat), .str o]) D = some (.lst (ls.map V.int)) := (upd_ne nDT).trans d1
      have nDp : D ≠ p := ne_of_none d2 hp
      have d3 := (upd_ne (o := .tup [.str who, .str o]) nDp).trans d2
      refine ⟨.ref d, rfl, d, _, rfl, DGet.t (k := k2 who o) k1 upd_same, _, rfl, ?_⟩
      rw [k3]
      have lt := lastP_take (frd ps who) ho
      refine ite2 (fun c => ?_) (fun c => ?_)
      · rw [if_pos c] at lt
        refine ⟨_, rfl, _, d3, ?_, ls ++ [(i : Int)], fun b o' e => ?_, ?_, ?_, ?_⟩
        · rw [List.length_map]
          exact small1000 (by omega)
        · rw [upd_ne (ne_of_none e hD)]
          exact s3 _ _ e
        · rw [upd_same, List.map_append]
          rfl
        · rw [List.length_append]
          show ls.length + 1 ≤ i + 1
          omega
        · rw [lt, List.getLast?_append]
          rfl
      · rw [if_neg c] at lt
        exact ⟨ls, s3, d3, by omega, by rw [lt]; exact g1⟩
    · rintro H1 ⟨ls, s1, d1, m1, g1⟩
      rw [List.length_map, List.take_of_length_le (Nat.le_refl _)] at g1
      exact fin H1 ls s1 d1 g1
  have last : ∀ (D : Addr) (H' : Hp) (ls : List Int), Same H H' → H' D = some (.lst (ls.map V.int)) → ls.getLast? = (lastP (frd ps who) row).map (fun k => (k : Int)) →
      (tRet (tIf (fun σ H Q => tVar 3 σ H fun x H1 => ∃ k, TruV K x H1 k ∧ Q k H1) (tOp (rIxL K) (tVar 3) (tUn (rU fun i => .int (-i)) (tC (.int 1)))) (tC .non))) { nx := fun _ H' => Q .non H', rt := Q } [some (.ref d), some (.ref r), some (.str who), some (.ref D), none, none] H' := by
    intro D H' ls s1 d1 g1
    refine ⟨.ref D, rfl, _, .inl ⟨_, .inl (.inl d1), rfl⟩, ite2 (fun c => ?_) (fun c => ?_)⟩
    · obtain ⟨z, hz⟩ : ∃ z, ls.getLast? = some z := by
        cases h : ls.getLast? with
        | some z => exact ⟨z, rfl⟩
        | none =>
          rw [List.getLast?_eq_none_iff.mp h] at c
          cases c
      obtain ⟨ys, hz'⟩ := List.getLast?_eq_some_iff.mp hz
      have ev : lfpV (lastP (frd ps who) row) = .int z := by
        rw [hz] at g1
        cases e : lastP (frd ps who) row with
        | none => rw [e] at g1; cases g1
        | some k =>
          rw [e] at g1
          have : z = (k : Int) := Option.some.inj g1
          rw [this]
          rfl
      refine ⟨.ref D, rfl, 1, rfl, D, _, -1, .int z, rfl, rfl, .inl (.inl d1), ?_, ?_⟩
      · rw [hz', List.map_append]
        exact atI_last _ _
      · rw [← ev]
        exact q H' s1
    · have e : lfpV (lastP (frd ps who) row) = .non := by
        cases h : lastP (frd ps who) row with
        | none => rfl
        | some k =>
          rw [h] at g1
          cases ls with
          | nil => cases g1
          | cons x r => exact absurd rfl c
      show Q .non H'
      rw [← e]
      exact q H' s1
  rcases hrow with e | e
  · refine .inr ⟨.ref r, rfl, r, _, rfl, e.sq, fun D hD => ?_⟩
    exact key _ _ walk_enumT (fun H' s => (e.same s).sq) D hD _ (fun H' ls s1 d1 g1 => last D H' ls s1 d1 g1)
  · refine .inl ⟨.ref r, rfl, r, _, rfl, .inl (.inl e), fun D hD => ?_⟩
    exact key _ _ walk_enum (fun H' s => .inl (.inl (s _ _ e))) D hD _ (fun H' ls s1 d1 g1 => last D H' ls s1 d1 g1)
/-! ### loose_at, is_loose, loose_in -/
abbrev sLooseAt : Stmt := topS 13
abbrev nLooseAt : List Str := ["known", "row", "place", "last"]
theorem scLooseAt : FnScope nLooseAt ["known", "row", "place"] (defScope sLooseAt) := ⟨rfl, rfl, rfl, by decide +kernel, rfl, by decide +kernel, by decide +kernel⟩
theorem ok_looseAt {f : Addr} {fd : FuncData} (B : Blt mg) (CL : Cal P w K mg base 1 "last_friend_place" ["known", "row", "who"] spLfp) (F : Fun K "loose_at" "loose_at" sLooseAt f fd) : FnOk P w K mg base CX0 2 f fd ["known", "row", "place"] spLooseAt := by
  refine fok F scLooseAt (fun vs H Q E h => ?_) (fun cdv A outer s H vs Q E hr h => ?_)
  · obtain ⟨d, r, ps, row, x, i, rfl, _⟩ := h
    rfl
  obtain ⟨d, r, ps, row, x, i, rfl, hd, hrow, hn, hi, q⟩ := h
  refine ⟨_, pss_cons (ps_set (i := 3) scLooseAt.nd rfl (.inl rfl) (pe_cal CL hr (pa_cons (pv 0) (pa_cons (pv 1) (pa_cons (pe_ix ix_seq (pv 1) (pv 2) (fun _ _ => rfl)) pa_nil)))))
    (pss_cons (ps_if (pt_cmp (pc_isN (pv 3))) (pss_one (ps_ret (pe_cmpR op_eq (pv 2) (pe_op op_sub (pe_callB call_len_seq (by rfl) B.len PySem.boot_len (pa_cons (pv 1) pa_nil)) pe_int) (nomark _)))) pss_nil)
    (pss_one (ps_ret (pe_cmpR op_eq (pv 3) (pe_op op_sub (pv 2) pe_int) (nomark _))))), ?_⟩
  have hlt : i < row.length := (List.getElem?_eq_some_iff.mp hi).1
  have fin : ∀ H2, Same H H2 → (tSeq (tIfS (tB (tIsN (tVar 3))) (tRet (tOp rEq (tVar 2) (tOp (rI0 fun i j => .int (i - j)) (tCB (fun xs H Q => ∃ p ys, xs = [.ref p] ∧ (SqL K H p ys ∨ SqT K H p ys) ∧ Q (.int ys.length) H) (tCons (tVar 1) tNil)) (tC (.int 1))))) tNext) (tRet (tOp rEq (tVar 3) (tOp (rI0 fun i j => .int (i - j)) (tVar 2) (tC (.int 1)))))) { nx := fun _ H' => Q .non H', rt := Q } [some (.ref d), some (.ref r), some (.int (i : Nat)), some (lfpV (lastP (frd ps x) row))] H2 := by
    intro H2 s2
    have q2 := q H2 s2
    unfold looseB at q2
    refine ⟨_, rfl, _, rfl, ?_⟩
    cases e : lastP (frd ps x) row with
    | none =>
      rw [e] at q2
      have sq : SqL K H2 r (row.map V.str) ∨ SqT K H2 r (row.map V.str) := (hrow.same s2).elim (fun e => .inr e.sq) (fun e => .inl (.inl (.inl e)))
      refine ⟨_, rfl, .ref r, rfl, r, _, rfl, sq, _, _, rfl, rfl, rfl, ?_⟩
      have ed : decide (V.int (i : Int) = V.int ((((row.map V.str).length : Nat) : Int) - 1)) = decide (i + 1 = row.length) := by
        rw [List.length_map]
        refine decide_eq_decide.mpr ⟨fun z => ?_, fun z => congrArg V.int (by omega)⟩
        have := V.int.inj z
        omega
      rw [ed]
      exact q2
    | some k =>
      rw [e] at q2
      refine ⟨_, rfl, _, rfl, _, _, rfl, rfl, rfl, ?_⟩
      have ed : decide (V.int (k : Int) = V.int ((i : Int) - 1)) = decide (k + 1 = i) := by
        refine decide_eq_decide.mpr ⟨fun z => ?_, fun z => congrArg V.int (by omega)⟩
        have := V.int.inj z
        omega
      show Q (.bl (decide (V.int (k : Int) = V.int ((i : Int) - 1)))) H2
      rw [ed]
      exact q2
  refine ⟨_, rfl, .ref r, rfl, .ref r, rfl, _, rfl, ?_⟩
  rcases hrow with e | e
  · refine .inr (.inl ⟨r, _, i, .str x, rfl, rfl, e.sq, atI_nat (ix_map hi), d, r, ps, row, x, rfl, hd, .inl e, hn, fun H2 s2 => fin H2 s2⟩)
  · refine .inl ⟨r, _, i, .str x, rfl, rfl, .inl (.inl e), atI_nat (ix_map hi), d, r, ps, row, x, rfl, hd, .inr e, hn, fun H2 s2 => fin H2 s2⟩
/-! ### hindmost_loose, gone_and_left, goers, left_over -/
abbrev sHind : Stmt := topS 14
abbrev nHind : List Str := ["known", "row", "but", "place"]
theorem scHind : FnScope nHind ["known", "row", "but"] (defScope sHind) := ⟨rfl, rfl, rfl, by decide +kernel, rfl, by decide +kernel, by decide +kernel⟩
theorem ok_hind {f : Addr} {fd : FuncData} (B : Blt mg) (CL : Cal P w K mg base 2 "loose_at" ["known", "row", "place"] spLooseAt) (F : Fun K "hindmost_loose" "hindmost_loose" sHind f fd) : FnOk P w K mg base CX0 3 f fd ["known", "row", "but"] (spHind K) := by
  refine fok F scHind (fun vs H Q E h => ?_) (fun cdv A outer s H vs Q E hr h => ?_)
  · obtain ⟨d, r, p, ps, row, stay, rfl, _⟩ := h
    rfl
  obtain ⟨d, r, p, ps, row, stay, rfl, hd, e, hn, hb, q⟩ := h
  refine ⟨_, pss_cons (ps_for PassesOwn.never rfl (pi_range3 (by rfl) B.range (pa_cons (pe_op op_sub (pe_callB call_len_seq (by rfl) B.len PySem.boot_len (pa_cons (pv 1) pa_nil)) pe_int) (pa_cons (pe_un un_neg pe_int) (pa_cons (pe_un un_neg pe_int) pa_nil)))) (pg_name (i := 3) scHind.nd rfl (.inl rfl))
      (pss_one (ps_if (PW.pt (pw_and (pt_cmpR op_notIn_seq (pe_ix ix_list (pv 1) (pv 3) (fun _ _ => rfl)) (pv 2) (by rfl)) (pw_and1 (pt_val (pe_cal CL hr (pa_cons (pv 0) (pa_cons (pv 1) (pa_cons (pv 3) pa_nil)))))))) (pss_one (ps_ret (pv 3))) pss_nil)))
    (pss_one (ps_ret pe_non)), ?_⟩
  refine ⟨.ref r, rfl, r, _, rfl, .inl (.inl (.inl e)), _, _, rfl, rfl, 1, rfl, 1, rfl, _, _, _, _, rfl, RgC.neg ?_ ?_ (by decide) (by decide), ?_⟩
  · rw [List.length_map]
    omega
  · rw [List.length_map]
    omega
  rw [List.length_map]
  refine for_it (walk_rangeC (lo := (row.length : Int) - 1) (c := -1) (n := ((row.length : Int) - 1 - -1).toNat)) (fun k σ H' => ∃ (y3 : Option V), σ = [some (.ref d), some (.ref r), some (.ref p), y3] ∧ Same H H' ∧ someTo ps stay row (row.length - k) = someL ps stay row) ?_ (fun _ _ _ _ _ => trivial) ?_ ?_
  · exact ⟨_, rfl, Same.refl H, by rw [Nat.sub_zero, someTo_all]⟩
  · rintro k x σ H2 H1 hk ⟨y3, rfl, s1, g1⟩ ⟨rfl, rfl⟩
    have hk' : k < row.length := by omega
    obtain ⟨x, hx⟩ : ∃ x, row[row.length - 1 - k]? = some x := ⟨row[row.length - 1 - k]'(by omega), List.getElem?_eq_getElem _⟩
    have ei : ((row.length : Int) - 1 + (k : Int) * -1) = ((row.length - 1 - k : Nat) : Int) := by omega
    rw [show ((fun i : Nat => V.int ((row.length : Int) - 1 + (i : Int) * -1)) k) = V.int ((row.length - 1 - k : Nat) : Int) from congrArg V.int ei]
    have st := someTo_step (ps := ps) (stay := stay) hx
    rw [show row.length - 1 - k + 1 = row.length - k by omega, g1] at st
    have e1 := s1 _ _ e
    refine ⟨.ref r, rfl, _, rfl, r, _, _, .str x, rfl, rfl, .inl (.inl e1), atI_nat (ix_map hx), .ref p, rfl, p, _, rfl, hb _ s1, rfl, flat_strs _, _, rfl, ?_⟩
    rw [inV_strs]
    refine ite2 (fun c => ?_) (fun c => ?_)
    · have c' : (!decide (x ∈ stay)) = true := c
      refine ⟨_, rfl, _, rfl, _, rfl, d, r, ps, row, x, row.length - 1 - k, rfl, hd.same s1, .inr e1, hn, hx, fun H2 s2 => ⟨_, rfl, ?_⟩⟩
      refine ite2 (fun c2 => ?_) (fun c2 => ?_)
      · refine ⟨_, rfl, q _ H2 (s1.trans s2) ?_⟩
        rw [if_pos (by rw [c', c2]; rfl)] at st
        rw [st, List.getLast?_append]
        exact ⟨_, rfl, hx⟩
      · rw [if_neg (by rw [c', Bool.true_and]; exact c2), List.append_nil] at st
        exact ⟨_, rfl, s1.trans s2, by rw [show row.length - (k + 1) = row.length - 1 - k by omega]; exact st.symm⟩
    · have c' : ¬ (!decide (x ∈ stay)) = true := c
      rw [if_neg (by intro z; exact c' ((Bool.and_eq_true _ _ ▸ z).1)), List.append_nil] at st
      exact ⟨_, rfl, s1, by rw [show row.length - (k + 1) = row.length - 1 - k by omega]; exact st.symm⟩
  · rintro σ H1 ⟨y3, rfl, s1, g1⟩
    refine q _ H1 s1 ?_
    rw [← g1, show row.length - ((row.length : Int) - 1 - -1).toNat = 0 by omega]
    rfl
abbrev sStayed : Stmt := topS 15
abbrev nStayed : List Str := ["known", "row", "but", "left", "gone", "place"]
theorem scStayed : FnScope nStayed ["known", "row", "but"] (defScope sStayed) := ⟨rfl, rfl, rfl, by decide +kernel, rfl, by decide +kernel, by decide +kernel⟩
theorem ok_stayed {f : Addr} {fd : FuncData} (B : Blt mg) (CH : Cal P w K mg base 3 "hindmost_loose" ["known", "row", "but"] (spHind K)) (F : Fun K "gone_and_stayed" "gone_and_stayed" sStayed f fd) : FnOk P w K mg base CX0 4 f fd ["known", "row", "but"] (spStayed K) := by
  refine fok F scStayed (fun vs H Q E h => ?_) (fun cdv A outer s H vs Q E hr h => ?_)
  · obtain ⟨a, r, p, ps, row, stay, rfl, _⟩ := h
    rfl
  obtain ⟨d, r, p, ps, row, stay, rfl, k1, hrow, hd, hn, hb, q⟩ := h
  have h1 : Room 1 _ := hr.mono (by decide)
  refine ⟨_, (pss_cons (ps_set (i := 3) scStayed.nd rfl (.inl rfl) (pe_callTy call_list_of (by rfl) B.list (by decide +kernel) (pa_cons (pv 1) pa_nil)))
    (pss_cons (ps_set (i := 4) scStayed.nd rfl (.inl rfl) (pe_lst pa_nil))
    (pss_cons (ps_set (i := 5) scStayed.nd rfl (.inl rfl) (pe_cal CH hr (pa_cons (pv 0) (pa_cons (pv 3) (pa_cons (pv 2) pa_nil)))))
    (pss_cons (ps_while PassesOwn.never (pt_cmp (pc_notN (pv 5)))
      (pss_cons (ps_expr (pe_bm PySem.F.plainAttrs_list PySem.F.slot_list_append PySem.F.type_list_append mt_append (pv 4) (pa_cons (pe_bm PySem.F.plainAttrs_list PySem.F.slot_list_pop PySem.F.type_list_pop mt_popAt (pv 3) (pa_cons (pv 5) pa_nil)) pa_nil)))
      (pss_one (ps_set (i := 5) scStayed.nd rfl (.inl rfl) (pe_cal CH hr (pa_cons (pv 0) (pa_cons (pv 3) (pa_cons (pv 2) pa_nil))))))))
    (pss_one (ps_ret (pe_tup (pa_cons (pv 4) (pa_cons (pe_callTy call_tupleF (by rfl) B.tuple (by decide +kernel) (pa_cons (pv 3) pa_nil)) pa_nil))))))))), ?_⟩
  have sq : SqL K H r (row.map V.str) ∨ SqT K H r (row.map V.str) := hrow.elim (fun e => .inr e.sq) (fun e => .inl (.inl (.inl e)))
  refine ⟨.ref r, rfl, r, _, rfl, sq, fun le hle => ?_⟩
  have s2 := same_upd (o := .lst (row.map V.str)) hle
  refine ⟨(by show 0 ≤ sizeLine; decide), fun go hgo => ?_⟩
  have s3 := same_upd (o := .lst []) hgo
  have ngl : le ≠ go := fun z => by rw [← z, upd_same] at hgo; cases hgo
  have hle0 : H le = none := hle
  have hgo0 : H go = none := s2.free hgo
  have l3 : upd (upd H le (.lst (row.map V.str))) go (.lst []) le = some (.lst (row.map V.str)) := s3 _ _ upd_same
  have s03 := s2.trans s3
  refine ⟨_, rfl, _, rfl, _, rfl, d, le, p, ps, row, stay, rfl, (k1.same s2).same s3, l3, hn, (fun H' s => hb H' (s03.trans s)), fun v H4 s4 hv => ?_⟩
  refine while_by (fun σ H' => ∃ (acc cur : List Str) (v : V), σ = [some (.ref d), some (.ref r), some (.ref p), some (.ref le), some (.ref go), some v] ∧ Same H H' ∧ KnAt H' d ps ∧ H' le = some (.lst (cur.map V.str)) ∧ H' go = some (.lst (acc.map V.str)) ∧ cur.Nodup ∧ acc.length + cur.length = row.length ∧ hindV cur (someL ps stay cur).getLast? v ∧ acc ++ goneO ps stay cur = goneO ps stay row ∧ goneR ps stay cur = goneR ps stay row)
    (fun σ H' => match H' le with | some (.lst xs) => xs.length | _ => 0) ?_ ?_ ?_
  · exact ⟨[], row, v, rfl, s03.trans s4, ((k1.same s2).same s3).same s4, s4 _ _ l3, s4 _ _ upd_same, hd, Nat.zero_add _, hv, rfl, rfl⟩
  · rintro σ H5 ⟨acc, cur, v, rfl, s5, k5, l5, g5, d5, n5, v5, a5, r5⟩
    refine ⟨_, rfl, ?_⟩
    cases e : (someL ps stay cur).getLast? with
    | none =>
      rw [e] at v5
      have v5' : v = .non := v5
      subst v5'
      refine ⟨_, rfl, ?_⟩
      have en := List.getLast?_eq_none_iff.mp e
      obtain ⟨z1, z2⟩ := gone_none en
      rw [z1, List.append_nil] at a5
      rw [z2] at r5
      refine ⟨.ref go, rfl, .ref le, rfl, le, _, rfl, .inl ⟨.inl (.inl l5), fun t H6 s6 n6 t6 => ?_⟩⟩
      refine ⟨(by show 2 ≤ sizeLine; decide), fun T hT => ?_⟩
      have s7 := same_upd (o := .tup [.ref go, .ref t]) hT
      refine q T go t _ ((s5.trans s6).trans s7) hgo0 upd_same ?_ ?_
      · rw [← a5]
        exact s7 _ _ (s6 _ _ g5)
      · rw [← r5]
        exact t6.same s7
    | some x =>
      rw [e] at v5
      obtain ⟨i, rfl, hx⟩ := v5
      have hi : i < cur.length := (List.getElem?_eq_some_iff.mp hx).1
      obtain ⟨z1, z2⟩ := gone_some d5 e
      have rl := rem_len d5 (List.mem_of_getElem? hx)
      refine ⟨_, rfl, ?_⟩
      have ngl' : go ≠ le := Ne.symm ngl
      refine ⟨.ref go, rfl, .inl ⟨rfl, _, .inl (.inl g5)⟩, .ref le, rfl, .inl ⟨rfl, _, .inl (.inl l5)⟩, _, rfl, le, _, i, i, .str x, rfl, rfl, l5, by omega, by omega, ?_, ix_map hx, ?_⟩
      · rw [List.length_map]
        exact PyProof.Rows.seqIndex_at (by omega) (by omega)
      rw [erase_map, erase_rem d5 hx]
      have g6 : upd H5 le (.lst ((rem cur x).map V.str)) go = some (.lst (acc.map V.str)) := (upd_ne ngl').trans g5
      refine ⟨go, _, _, rfl, rfl, g6, ?_, ?_⟩
      · rw [List.length_map]
        exact small1000 (by omega)
      have l7 : upd (upd H5 le (.lst ((rem cur x).map V.str))) go (.lst (acc.map V.str ++ [.str x])) le = some (.lst ((rem cur x).map V.str)) := (upd_ne ngl).trans upd_same
      have s7 : Same H (upd (upd H5 le (.lst ((rem cur x).map V.str))) go (.lst (acc.map V.str ++ [.str x]))) := fun b o z => by
        rw [upd_ne (ne_of_none z hgo0), upd_ne (ne_of_none z hle0)]
        exact s5 _ _ z
      have k7 : KnAt (upd (upd H5 le (.lst ((rem cur x).map V.str))) go (.lst (acc.map V.str ++ [.str x]))) d ps := by
        obtain ⟨kvs, w1, w2⟩ := k5
        exact ⟨kvs, (upd_ne (ne_of w1 g5 (fun z => nomatch z))).trans ((upd_ne (ne_of w1 l5 (fun z => nomatch z))).trans w1), w2⟩
      refine ⟨_, rfl, _, rfl, _, rfl, d, le, p, ps, rem cur x, stay, rfl, k7, l7, by omega, (fun H' s => hb H' (s7.trans s)), fun v8 H8 s8 hv8 => ?_⟩
      refine ⟨⟨acc ++ [x], rem cur x, v8, rfl, s7.trans s8, k7.same s8, s8 _ _ l7, ?_, rem_nodup d5, ?_, hv8, ?_, ?_⟩, ?_⟩
      · rw [List.map_append]
        exact s8 _ _ upd_same
      · rw [List.length_append]
        show acc.length + 1 + _ = _
        omega
      · rw [List.append_assoc]
        show acc ++ (x :: goneO ps stay (rem cur x)) = _
        rw [← z1]
        exact a5
      · rw [← z2]
        exact r5
      · rw [s8 _ _ l7, l5]
        show ((rem cur x).map V.str).length < (cur.map V.str).length
        rw [List.length_map, List.length_map]
        omega
  · rintro σ H5 Q1 Q2 hQ ⟨y, hy, c, hc, z⟩
    exact ⟨y, hy, c, hc, hQ _ _ z⟩
/-! ### traced_back -/
abbrev sTraced : Stmt := topS 20
abbrev nTraced : List Str := ["friends", "served", "row", "elders", "waits", "known", "here", "undone", "many", "staying", "gone", "who"]
theorem scTraced : FnScope nTraced ["friends", "served", "row", "elders", "waits"] (defScope sTraced) := ⟨rfl, rfl, rfl, by decide +kernel, rfl, by decide +kernel, by decide +kernel⟩
theorem ok_tracedF {f : Addr} {fd : FuncData} (B : Blt mg) (CB : Cal P w K mg base 1 "both_ways" ["friends"] spBoth) (CS : Cal P w K mg base 4 "gone_and_stayed" ["known", "row", "but"] (spStayed K)) (F : Fun K "traced_back" "traced_back" sTraced f fd) : FnOk P w K mg base CX0 5 f fd ["friends", "served", "row", "elders", "waits"] (spTracedF K) := by
  refine fok F scTraced (fun vs H Q E h => ?_) (fun cdv A outer s H vs Q E hr h => ?_)
  · obtain ⟨a, sv, r, e, wd, ps, svd, row, elders, ws, rfl, _⟩ := h
    rfl
  obtain ⟨a, sv, r, e, wd, ps, svd, row, elders, ws, rfl, ha, hp, irr, hsv, hrow, he, hw, nd, ln, lne, q⟩ := h
  have hu := hu_of hr
  refine ⟨_, pss_cons (ps_set (i := 5) scTraced.nd rfl (.inl rfl) (pe_cal CB hr (pa_cons (pv 0) pa_nil)))
    (pss_cons (ps_set (i := 6) scTraced.nd rfl (.inl rfl) (pe_callTy call_tupRow (by rfl) B.tuple (by decide +kernel) (pa_cons (pv 2) pa_nil)))
    (pss_cons (ps_set (i := 7) scTraced.nd rfl (.inl rfl) (pe_lst pa_nil))
    (pss_cons (ps_for PassesOwn.never rfl (pi_range3 (by rfl) B.range (pa_cons (pe_callB call_len_seq (by rfl) B.len PySem.boot_len (pa_cons (pv 1) pa_nil)) (pa_cons (pe_un un_neg pe_int) (pa_cons (pe_un un_neg pe_int) pa_nil)))) (pg_name (i := 8) scTraced.nd rfl (.inr rfl))
      (pss_cons (ps_set (i := 9) scTraced.nd rfl (.inl rfl) (pe_op op_cat (pe_callTy call_list_of (by rfl) B.list (by decide +kernel) (pa_cons (pv 3) pa_nil)) (pe_lock (pe_lc (own := [("who", 11)]) (g := gName 11) (tt := tTest (tOp rNe (tDGet (tVar 4) (tVar 11)) (tVar 8))) (te := tVar 11) rfl scTraced.nd (pi_keys (pv 4)) (blkOk_by (N := nTraced) (sc := defScope sTraced) (by decide +kernel)) (fun _ _ _ _ _ => pg_name (i := 11) scTraced.nd rfl (Or.inl rfl)) (fun _ _ _ _ _ => pts_one (pt_cmpR op_ne (pe_dget hu (pv 4) (pv 11) (fun _ _ => rfl)) (pv 8) (nomark _))) (fun _ _ _ _ _ => pv 11)))))
      (pss_cons (ps_asg (pe_cal CS hr (pa_cons (pv 5) (pa_cons (pv 6) (pa_cons (pv 9) pa_nil)))) (pg_tup rfl (pgs_cons (pg_name (i := 10) scTraced.nd rfl (.inl rfl)) (pgs_cons (pg_name (i := 6) scTraced.nd rfl (.inl rfl)) pgs_nil))))
      (pss_cons (ps_expr (pe_bm PySem.F.plainAttrs_list PySem.F.slot_list_extend PySem.F.type_list_extend mt_extend (pv 7) (pa_cons (pe_lc (own := [("who", 11)]) (g := gName 11) (tt := tYes) (te := tTupF (tCons (tC (.str "come")) (tCons (tVar 11) tNil))) rfl scTraced.nd (pi_list (pv 10)) (blkOk_by (N := nTraced) (sc := defScope sTraced) (by decide +kernel)) (fun _ _ _ _ _ => pg_name (i := 11) scTraced.nd rfl (Or.inl rfl)) (fun _ _ _ _ _ => pts_nil) (fun _ _ _ _ _ => pe_tupF (pa_cons pe_str (pa_cons (pv 11) pa_nil)))) pa_nil)))
      (pss_one (ps_if (pt_cmpR op_gt (pv 8) pe_int (nomark _))
        (pss_cons (ps_expr (pe_bm PySem.F.plainAttrs_list PySem.F.slot_list_append PySem.F.type_list_append mt_append (pv 7) (pa_cons (pe_tupF (pa_cons pe_str pa_nil)) pa_nil)))
        (pss_one (ps_set (i := 6) scTraced.nd rfl (.inl rfl) (pe_op op_catM (pe_tupF (pa_cons (pe_ix ix_row (pv 1) (pe_op op_sub (pv 8) pe_int) (fun _ _ => rfl)) pa_nil)) (pv 6))))) pss_nil))))))
    (pss_one (ps_ret (pe_tup (pa_cons (pe_revL (pv 7)) (pa_cons (pe_callTy call_tupleF (by rfl) B.tuple (by decide +kernel) (pa_cons (pe_lc (own := [("who", 11)]) (g := gName 11) (tt := tTest (tOp (rIn K true) (tVar 11) (tVar 3))) (te := tVar 11) rfl scTraced.nd (pi_tup (pv 6)) (blkOk_by (N := nTraced) (sc := defScope sTraced) (by decide +kernel)) (fun _ _ _ _ _ => pg_name (i := 11) scTraced.nd rfl (Or.inl rfl)) (fun _ _ _ _ _ => pts_one (pt_cmpR op_notIn_seq (pv 11) (pv 3) (by rfl))) (fun _ _ _ _ _ => pv 11)) pa_nil)) pa_nil)))))))), ?_⟩
  refine ⟨_, rfl, a, ps, rfl, ha, hp, fun d H1 s1 nd1 k1 => ?_⟩
  refine ⟨.ref r, rfl, r, row, rfl, hrow.same s1, fun t H2 s2 e2 => ?_⟩
  refine ⟨(by show 0 ≤ sizeLine; decide), fun u hu2 => ?_⟩
  have s3 := same_upd (o := .lst []) hu2
  have s02 := s1.trans s2
  have s03 := s02.trans s3
  have hu0 : H u = none := s02.free hu2
  have sq : ∀ {H' : Hp} {x : Addr} {xs : List Str}, RowAt H' x xs → (SqL K H' x (xs.map V.str) ∨ SqT K H' x (xs.map V.str)) := fun h => h.elim (fun e => .inr e.sq) (fun e => .inl (.inl (.inl e)))
  refine ⟨.ref sv, rfl, sv, _, rfl, sq (hsv.same s03), 1, rfl, 1, rfl, _, _, _, _, rfl, RgC.neg ?_ ?_ (by decide) (by decide), ?_⟩
  · rw [List.length_map]
    omega
  · rw [List.length_map]
    omega
  rw [List.length_map]
  refine for_it (walk_rangeC (lo := (svd.length : Int)) (c := -1) (n := ((svd.length : Int) - -1).toNat)) (fun i σ H' => ∃ (t' : Addr) (acc : List LD) (cur : List Str) (y8 y9 y10 y11 : Option V), σ = [some (.ref a), some (.ref sv), some (.ref r), some (.ref e), some (.ref wd), some (.ref d), some (.ref t'), some (.ref u), y8, y9, y10, y11] ∧ Same H H' ∧ KnAt H' d ps ∧ TupAt H' t' (cur.map V.str) ∧ H' u = some (.lst (refsD acc)) ∧ DeedsAt H' acc ∧ (svd.take (svd.length - i) ++ cur).Nodup ∧ cur.length ≤ row.length + i ∧ acc.length + cur.length ≤ row.length + 2 * i ∧ TrAt ps (stayF elders ws) svd row i (acc.map (·.2)) cur) ?_ (fun _ _ _ _ _ => trivial) ?_ ?_
  · refine ⟨t, [], row, _, _, _, _, rfl, s03, (k1.same s2).same s3, e2.same s3, upd_same, (fun _ h => nomatch h), ?_, Nat.le_refl _, by simp, ?_⟩
    · rw [Nat.sub_zero, List.take_of_length_le (Nat.le_refl _)]
      exact nd
    · unfold TrAt
      rw [if_pos (Nat.zero_le _)]
      exact ⟨rfl, rfl⟩
  · rintro i x σ H6 H5 hi ⟨t', acc, cur, y8, y9, y10, y11, rfl, s5, k5, t5, u5, d5, nd5, cl5, al5, tr5⟩ ⟨rfl, rfl⟩
    have hin : i ≤ svd.length := by omega
    obtain ⟨m, em⟩ : ∃ m, m = svd.length - i := ⟨_, rfl⟩
    have ei : ((svd.length : Int) + (i : Int) * -1) = ((m : Nat) : Int) := by omega
    rw [show ((fun i : Nat => V.int ((svd.length : Int) + (i : Int) * -1)) i) = V.int ((m : Nat) : Int) from congrArg V.int ei]
    refine ⟨.ref e, rfl, e, _, rfl, he _ s5, fun le hle => ?_⟩
    have s6 := same_upd (o := .lst (elders.map V.str)) hle
    have w6 := s6 _ _ (s5 _ _ hw)
    refine ⟨wd, .dK (waitsL ws), w6, trivial, fun od => ?_⟩
    refine ⟨.ref wd, rfl, wd, od, rfl, .inl ⟨_, upd_same, fun D hD => ?_⟩⟩
    have lw : (waitsL ws).length = ((wkeys ws).map V.str).length := by
      cases ws with
      | none => rfl
      | some z => rfl
    have wk := walk_keys (d := wd) (o := od) (kvs := waitsL ws)
    rw [lw] at wk
    refine lc_filt wk (fun _ => waitB ws m) hD (fun H' s => s _ _ upd_same) ?_ ?_ ?_ (fun v H A B h z => h _ _ z) ?_ (fun σ2 H A B h ⟨v, e, z⟩ => ⟨v, e, h _ _ z⟩)
    · rintro k y v H7 H7' hy s7 ⟨rfl, kk, vv, ex, rfl⟩
      cases ws with
      | none => cases hy
      | some z =>
        obtain ⟨w', n'⟩ := z
        cases k with
        | succ k => cases hy
        | zero =>
          cases hy
          cases ex
          have g7 : DGet H7' wd (.str y) (some (.int (n' : Nat))) := .inl ⟨_, .inr y, .inr ⟨od, s7 _ _ upd_same⟩, rfl, (valV_one y _).symm⟩
          refine ⟨Same.refl _, rfl, .ref wd, rfl, .str y, rfl, wd, _, rfl, g7, _, rfl, rfl, _, rfl, ?_, Same.refl _, fun _ => ⟨_, rfl, rfl, Same.refl _⟩⟩
          show (!decide (V.int ((n' : Nat) : Int) = V.int ((m : Nat) : Int))) = !decide (n' = m)
          congr 1
          exact decide_eq_decide.mpr ⟨fun z => by injection z; omega, fun z => by rw [z]⟩
    · intro H8 s8 e8
      have hDw : D ≠ wd := fun z => by rw [z, upd_same] at hD; cases hD
      have ew : ((wkeys ws).filter fun _ => waitB ws m) = waitN ws m := by
        cases ws with
        | none => rfl
        | some z =>
          obtain ⟨w', n'⟩ := z
          show ([w'].filter fun _ => !decide (n' = m)) = if n' = m then [] else [w']
          by_cases c : n' = m
          · rw [if_pos c]
            simp [c]
          · rw [if_neg c]
            simp [c]
      rw [ew] at e8
      have s9 : Same (upd H5 le (.lst (elders.map V.str))) (upd H8 wd (.dK (waitsL ws))) := fun b o z => by
        by_cases c : b = wd
        · subst c
          rw [upd_same, ← w6]
          exact z
        · rw [upd_ne c]
          exact s8 _ _ ((upd_ne c).trans z)
      have s59 := s6.trans s9
      refine ⟨s8 _ _ upd_same, le, D, _, _, rfl, rfl, s9 _ _ upd_same, (upd_ne hDw).trans e8, ?_, fun p' hp' => ?_⟩
      · rw [List.length_map, List.length_map]
        refine small_le ?_
        have : (waitN ws m).length ≤ 1 := by
          cases ws with
          | none => exact Nat.zero_le _
          | some z =>
            obtain ⟨w', n'⟩ := z
            show (if n' = m then [] else [w']).length ≤ 1
            by_cases c : n' = m
            · rw [if_pos c]
              exact Nat.zero_le _
            · rw [if_neg c]
              exact Nat.le_refl _
        omega
      rw [← List.map_append]
      have s10 := same_upd (o := .lst ((elders ++ waitN ws m).map V.str)) hp'
      have s510 := s59.trans s10
      have cl : cur.length ≤ 100 := by omega
      refine ⟨_, rfl, _, rfl, _, rfl, d, t', p', ps, cur, stayF elders ws m, rfl, k5.same s510, .inl (t5.same s510), nd_right nd5, cl, (fun H' s => .inl (.inl (.inl (s _ _ upd_same)))), fun T g t2 H11 s11 n11 eT eg et => ?_⟩
      have gl := gone_len (ps := ps) (stay := stayF elders ws m) cur.length cur rfl (nd_right nd5)
      have gr := gone_red (ps := ps) (stay := stayF elders ws m) irr cur.length cur rfl (nd_right nd5)
      refine ⟨T, _, rfl, .inl (.inl eT), rfl, _, _, rfl, _, _, rfl, rfl, ?_⟩
      have s511 := s510.trans s11
      have u11 := s511 _ _ u5
      refine ⟨.ref u, rfl, .inl ⟨rfl, _, .inl (.inl u11)⟩, .ref g, rfl, g, rfl, ⟨_, .inl (.inl eg)⟩, fun D2 hD2 => ?_⟩
      refine lc_it (walk_list (xs := (goneO ps (stayF elders ws m) cur).map V.str)) (fun i H' => ∃ (ac : List LD), Same H11 H' ∧ H' D2 = some (.lst (refsD ac)) ∧ DeedsAt H' ac ∧ ac.map (·.2) = ((goneO ps (stayF elders ws m) cur).take i).map some) ?_ ?_ ?_ ?_
      · exact ⟨[], same_upd hD2, upd_same, (fun _ h => nomatch h), rfl⟩
      · rintro j H' _ ⟨ac, sx, _⟩
        exact .inl (.inl (sx _ _ eg))
      · rintro j x H' H'' hj ⟨ac, s12, e12, d12, m12⟩ ⟨rfl, ex⟩
        obtain ⟨z, hz, rfl⟩ := at_map ex
        have lac : ac.length ≤ 100 := by
          have := congrArg List.length m12
          rw [List.length_map, List.length_map, List.length_take] at this
          omega
        refine ⟨rfl, .str z, rfl, (by show 2 ≤ sizeLine; decide), fun T2 H3 sT nT tT => ?_⟩
        have e13 := sT _ _ e12
        refine ⟨_, e13, ?_, ac ++ [(T2, some z)], ?_, ?_, ?_, ?_⟩
        · unfold refsD
          rw [List.length_map]
          exact small1000 (by omega)
        · exact fun b o z => by
            rw [upd_ne (ne_of_none z hD2)]
            exact sT _ _ (s12 _ _ z)
        · rw [upd_same]
          unfold refsD
          rw [List.map_append]
          rfl
        · intro qd hq
          rcases List.mem_append.mp hq with w1 | w1
          · exact ((d12 qd w1).same sT).upd_ e13
          · rw [List.mem_singleton.mp w1]
            exact tT.upd_ e13
        · rw [List.map_append, m12, List.take_add_one, hz, List.map_append]
          rfl
      · rintro H12 ⟨ac, s12, e12, d12, m12⟩
        rw [List.length_map, List.take_of_length_le (Nat.le_refl _)] at m12
        have lac : ac.length = (goneO ps (stayF elders ws m) cur).length := by
          have := congrArg List.length m12
          rw [List.length_map, List.length_map] at this
          exact this
        have u12 := s12 _ _ u11
        have s512 := s511.trans s12
        refine ⟨u, D2, _, _, rfl, rfl, u12, e12, ?_, ?_⟩
        · unfold refsD
          rw [List.length_map, List.length_map]
          exact small_le (by omega)
        have er : refsD acc ++ refsD ac = refsD (acc ++ ac) := (List.map_append).symm
        rw [er]
        -- the heap from here on
        have d512 : DeedsAt H12 (acc ++ ac) := fun qd hq => by
          rcases List.mem_append.mp hq with w1 | w1
          · exact (d5 qd w1).same s512
          · exact d12 qd w1
        have d13 : DeedsAt (upd H12 u (.lst (refsD (acc ++ ac)))) (acc ++ ac) := fun qd hq => (d512 qd hq).upd_ u12
        have s13 : Same H (upd H12 u (.lst (refsD (acc ++ ac)))) := fun b o z => by
          rw [upd_ne (ne_of_none z hu0)]
          exact s512 _ _ (s5 _ _ z)
        have k13 : KnAt (upd H12 u (.lst (refsD (acc ++ ac)))) d ps := by
          obtain ⟨kvs, w1, w2⟩ := k5.same s512
          exact ⟨kvs, (upd_ne (ne_of w1 u12 (fun z => nomatch z))).trans w1, w2⟩
        have t13 : TupAt (upd H12 u (.lst (refsD (acc ++ ac)))) t2 ((goneR ps (stayF elders ws m) cur).map V.str) := (et.same s12).upd_ u12
        have em2 : (acc ++ ac).map (·.2) = acc.map (·.2) ++ (goneO ps (stayF elders ws m) cur).map some := by rw [List.map_append, m12]
        have ndr := gr.1.nd2 nd5
        refine ⟨_, rfl, _, _, rfl, rfl, _, rfl, ?_⟩
        refine ite2 (fun c => ?_) (fun c => ?_)
        · have c' : (0 : Int) < ((m : Nat) : Int) := of_decide_eq_true c
          obtain ⟨m', rfl⟩ : ∃ m', m = m' + 1 := ⟨m - 1, by omega⟩
          have hy := getD_at (sv := svd) (m := m') (by omega)
          refine ⟨.ref u, rfl, .inl ⟨rfl, _, .inl (.inl upd_same)⟩, (by show 1 ≤ sizeLine; decide), fun T3 H14 s14 n14 t14 => ?_⟩
          have u14 := s14 _ _ (upd_same (H := H12) (a := u) (o := .lst (refsD (acc ++ ac))))
          refine ⟨u, _, _, rfl, rfl, u14, ?_, ?_⟩
          · unfold refsD
            rw [List.length_map, List.length_append]
            exact small1000 (by omega)
          have er2 : refsD (acc ++ ac) ++ [V.ref T3] = refsD (acc ++ ac ++ [(T3, none)]) := by
            unfold refsD
            rw [List.map_append (l₁ := acc ++ ac)]
            rfl
          rw [er2]
          have s15 : Same H (upd H14 u (.lst (refsD (acc ++ ac ++ [(T3, none)])))) := fun b o z => by
            rw [upd_ne (ne_of_none z hu0)]
            exact s14 _ _ (s13 _ _ z)
          have d15 : DeedsAt (upd H14 u (.lst (refsD (acc ++ ac ++ [(T3, none)])))) (acc ++ ac ++ [(T3, none)]) := fun qd hq => by
            rcases List.mem_append.mp hq with w1 | w1
            · exact ((d13 qd w1).same s14).upd_ u14
            · rw [List.mem_singleton.mp w1]
              exact t14.upd_ u14
          have k15 : KnAt (upd H14 u (.lst (refsD (acc ++ ac ++ [(T3, none)])))) d ps := by
            obtain ⟨kvs, w1, w2⟩ := k13.same s14
            exact ⟨kvs, (upd_ne (ne_of w1 u14 (fun z => nomatch z))).trans w1, w2⟩
          have t15 : TupAt (upd H14 u (.lst (refsD (acc ++ ac ++ [(T3, none)])))) t2 ((goneR ps (stayF elders ws (m' + 1)) cur).map V.str) := (t13.same s14).upd_ u14
          have hix : atI (svd.map V.str) (((m' + 1 : Nat) : Int) - 1) = some (.str (svd.getD m' "")) := by
            rw [show (((m' + 1 : Nat) : Int) - 1) = ((m' : Nat) : Int) by omega]
            exact atI_nat (ix_map hy)
          refine ⟨.ref sv, rfl, _, rfl, _, _, rfl, rfl, sv, svd, _, _, rfl, rfl, hsv.same s15, hix, (by show 1 ≤ sizeLine; decide), fun T4 H16 s16 n16 t16 => ?_⟩
          refine ⟨.ref t2, rfl, T4, t2, _, _, rfl, rfl, t16, t15.same s16, ?_, fun t5' H17 s17 t17 => ?_⟩
          · rw [List.length_map]
            exact small_le (by show 1 + _ ≤ 1000; omega)
          have s1617 := s16.trans s17
          refine ⟨t5', acc ++ ac ++ [(T3, none)], svd.getD m' "" :: goneR ps (stayF elders ws (m' + 1)) cur, _, _, _, _, rfl, s15.trans s1617, k15.same s1617, t17, s1617 _ _ upd_same, d15.same s1617, ?_, ?_, ?_, ?_⟩
          · rw [show svd.length - (i + 1) = m' by omega]
            rw [← em, line_back hy] at ndr
            exact ndr
          · rw [List.length_cons]
            omega
          · simp only [List.length_append, List.length_cons, List.length_nil]
            omega
          · have := trAt_step (m := m') em.symm tr5
            rw [← em] at this
            rw [List.map_append (l₁ := acc ++ ac), em2]
            exact this
        · have c' : m = 0 := by
            have h0 : ¬ (0 : Int) < ((m : Nat) : Int) := fun z => c (decide_eq_true z)
            omega
          have := trAt_last (by omega) hin tr5
          rw [← em] at this
          refine ⟨t2, acc ++ ac, _, _, _, _, _, rfl, s13, k13, t13, upd_same, d13, ?_, ?_, ?_, ?_⟩
          · rw [← em, c'] at ndr
            rw [show svd.length - (i + 1) = 0 by omega]
            rw [c']
            exact ndr
          · omega
          · rw [List.length_append]
            omega
          · rw [em2]
            exact this
    · cases ws with
      | none => exact Nat.zero_le _
      | some z => exact (by decide : 1 ≤ 1000)
    · rintro σ2 H A B h ⟨v1, e1, v2, e2, a', o', e3, g1, v4, e4, sc, b, eb, z⟩
      exact ⟨v1, e1, v2, e2, a', o', e3, g1, v4, e4, sc, b, eb, h _ _ z⟩
  · rintro σ H5 ⟨t', acc, cur, y8, y9, y10, y11, rfl, s5, k5, t5, u5, d5, nd5, cl5, al5, tr5⟩
    unfold TrAt at tr5
    rw [if_neg (by omega)] at tr5
    refine ⟨.ref u, rfl, u, _, rfl, .inl (.inl u5), fun ru hru => ?_⟩
    have s6 := same_upd (o := .lst (refsD acc).reverse) hru
    refine ⟨.ref t', rfl, t', rfl, ⟨_, (t5.same s6).sq⟩, fun L hL => ?_⟩
    refine lc_filt (walk_tup (K := K) (xs := cur.map V.str)) (fun y => !decide (y ∈ elders)) hL (fun H' s => ((t5.same s6).same s).sq) ?_ ?_ (by omega) (fun v H A B h z => h _ _ z) ?_ (fun σ2 H A B h ⟨v, e, z⟩ => ⟨v, e, h _ _ z⟩)
    · rintro k y v H7 H7' hy s7 ⟨rfl, ex⟩
      rw [ix_map hy] at ex
      cases ex
      refine ⟨Same.refl _, rfl, .str y, rfl, .ref e, rfl, e, _, rfl, he _ (s5.trans (s6.trans s7)), rfl, flat_strs _, _, rfl, ?_, Same.refl _, fun _ => ⟨_, rfl, rfl, Same.refl _⟩⟩
      rw [inV_strs]
      rfl
    · intro H8 s8 e8
      refine ⟨L, _, rfl, .inl ⟨.inl (.inl e8), fun l H9 s9 n9 t9 => ?_⟩⟩
      refine ⟨(by show 2 ≤ sizeLine; decide), fun T hT => ?_⟩
      have s10 := same_upd (o := .tup [.ref ru, .ref l]) hT
      have s610 := (s8.trans s9).trans s10
      have d6 : DeedsAt H5 acc.reverse := fun qd hq => d5 qd (List.mem_reverse.mp hq)
      refine q T ru l acc.reverse _ ((s5.trans s6).trans s610) (s5.free hru) upd_same ?_ ((d6.same s6).same s610) ?_ ?_
      · have := s610 _ _ (upd_same (H := H5) (a := ru) (o := .lst (refsD acc).reverse))
        rw [this]
        unfold refsD
        rw [List.map_reverse]
      · rw [List.map_reverse, tr5.1]
      · rw [← tr5.2]
        exact t9.same s10
    · rintro σ2 H A B h ⟨v1, e1, v2, e2, p2, xs2, e3, g1, f1, f2, b, eb, z⟩
      exact ⟨v1, e1, v2, e2, p2, xs2, e3, g1, f1, f2, b, eb, h _ _ z⟩
/-! ### line_of, refuse_astray, never_in -/
abbrev sLineOf : Stmt := topS 17
abbrev nLineOf : List Str := ["served", "row"]
theorem scLineOf : FnScope nLineOf nLineOf (defScope sLineOf) := ⟨rfl, rfl, rfl, by decide +kernel, rfl, by decide +kernel, by decide +kernel⟩
theorem ok_lineOf {f : Addr} {fd : FuncData} (B : Blt mg) (F : Fun K "line_of" "line_of" sLineOf f fd) : FnOk P w K mg base CX0 1 f fd nLineOf spLineOf := by
  refine fok F scLineOf (fun vs H Q E h => ?_) (fun cdv A outer s H vs Q E hr h => ?_)
  · obtain ⟨sv, r, svd, row, rfl, _⟩ := h
    rfl
  obtain ⟨sv, r, svd, row, rfl, h1, h2, ln, q⟩ := h
  refine ⟨_, pss_one (ps_ret (pe_op op_catM (pe_callTy call_tupRow (by rfl) B.tuple (by decide +kernel) (pa_cons (pv 0) pa_nil)) (pe_callTy call_tupRow (by rfl) B.tuple (by decide +kernel) (pa_cons (pv 1) pa_nil)))), ?_⟩
  refine ⟨.ref sv, rfl, sv, svd, rfl, h1, fun t1 H1 s1 e1 => ?_⟩
  refine ⟨.ref r, rfl, r, row, rfl, h2.same s1, fun t2 H2 s2 e2 => ?_⟩
  refine ⟨t1, t2, _, _, rfl, rfl, e1.same s2, e2, ?_, fun t3 H3 s3 e3 => ?_⟩
  · rw [List.length_map, List.length_map]
    exact small_le (by omega)
  rw [← List.map_append] at e3
  exact q t3 H3 ((s1.trans s2).trans s3) e3
abbrev sFirstA : Stmt := topS 18
abbrev nFirstA : List Str := ["line", "elders", "places", "hindmost", "who", "place"]
theorem scFirstA : FnScope nFirstA ["line", "elders"] (defScope sFirstA) := ⟨rfl, rfl, rfl, by decide +kernel, rfl, by decide +kernel, by decide +kernel⟩
theorem ok_firstA {f : Addr} {fd : FuncData} (B : Blt mg) (F : Fun K "first_astray" "first_astray" sFirstA f fd) : FnOk P w K mg base CX0 1 f fd ["line", "elders"] (spAstray K) := by
  refine fok F scFirstA (fun vs H Q E h => ?_) (fun cdv A outer s H vs Q E hr h => ?_)
  · obtain ⟨t, e, line, elders, rfl, _⟩ := h
    rfl
  obtain ⟨t, e, line, elders, rfl, ht, nd, ln, he, il, q⟩ := h
  have hu := hu_of hr
  refine ⟨_, pss_cons (ps_setDc (i := 2) (own := [("place", 5), ("who", 4)]) (g := gTup K 2 (gCons (gName 5) (gCons (gName 4) gNil))) (tt := tYes) (tk := tVar 4) (tv := tVar 5) rfl scFirstA.nd rfl rfl (by rfl) (pi_enumT (by rfl) B.enumerate (pa_cons (pv 0) pa_nil)) (blkOk_by (N := nFirstA) (sc := defScope sFirstA) (by decide +kernel))
        (fun _ _ _ _ _ => pg_tup rfl (pgs_cons (pg_name (i := 5) scFirstA.nd rfl (Or.inl rfl)) (pgs_cons (pg_name (i := 4) scFirstA.nd rfl (Or.inl rfl)) pgs_nil))) (fun _ _ _ _ _ => pts_nil) (fun _ _ _ _ _ => pv 4) (fun _ _ _ _ _ => pv 5))
    (pss_cons (ps_set (i := 3) scFirstA.nd rfl (.inl rfl) (pe_un un_neg pe_int))
    (pss_cons (ps_for PassesOwn.never rfl (pi_or2 (pi_list (pv 1)) (pi_tup (pv 1))) (pg_name (i := 4) scFirstA.nd rfl (.inl rfl))
      (pss_cons (ps_if (PW.pt (pw_or (pt_cmp (pc_dnotin hu (pv 4) (pv 2))) (pw_or1 (pt_cmpR op_lt (pe_dget hu (pv 2) (pv 4) (fun _ _ => rfl)) (pv 3) (nomark _))))) (pss_one ps_never) pss_nil)
      (pss_one (ps_set (i := 3) scFirstA.nd rfl (.inl rfl) (pe_dget hu (pv 2) (pv 4) (fun _ _ => rfl))))))
    (pss_one (ps_ret pe_non)))), ?_⟩
  refine ⟨.ref t, rfl, t, _, rfl, ht.sq, fun D hD => ?_⟩
  refine dc_it (walk_enumT (xs := line.map V.str)) (fun i H' => ∃ kvs, Same H H' ∧ H' D = some (.dK kvs) ∧ CameTo line i kvs) ?_ ?_ ?_ ?_
  · exact ⟨[], same_upd hD, upd_same, Nat.le_refl _, fun x hx => nomatch hx⟩
  · rintro i H' _ ⟨kvs, s2, _⟩
    exact (ht.same s2).sq
  · rintro i v H2 H3 hi ⟨kvs, s2, d2, c2⟩ ⟨T, x1, x2, rfl, nT, rfl, e1, e2⟩
    cases e1
    obtain ⟨z, hz, rfl⟩ := at_map e2
    rw [List.length_map] at hi
    have sT := same_upd (o := .tup [.int (i : Nat), .str z]) nT
    refine ⟨T, _, rfl, .inl (.inl upd_same), rfl, _, _, rfl, _, _, rfl, rfl, rfl, ?_⟩
    refine ⟨_, rfl, _, rfl, kvs, .inr z, rfl, sT _ _ d2, small1000 (by have := c2.1; omega), _, fun b o' e => ?_, upd_same, came_step nd hz c2⟩
    rw [upd_ne (ne_of_none e hD)]
    exact sT _ _ (s2 _ _ e)
  rintro H2 ⟨kvs, s2, d2, c2⟩
  rw [List.length_map] at c2
  have came : ∀ y ∈ line, valV kvs (.inr y) = some (.int (line.idxOf y : Nat)) := fun y hy => c2.2 y (by rw [List.take_of_length_le (Nat.le_refl _)]; exact hy)
  refine ⟨1, rfl, ?_⟩
  rcases he H2 s2 with el | el
  · refine .inl ⟨.ref e, rfl, e, rfl, ⟨_, el⟩, ?_⟩
    refine for_it (walk_list (xs := elders.map V.str)) (fun i σ H1 => ∃ (h : Int) (y4 y5 : Option V), σ = [some (.ref t), some (.ref e), some (.ref D), some (.int h), y4, y5] ∧ Same H2 H1 ∧ (∀ y ∈ elders.drop i, h ≤ (line.idxOf y : Nat))) ?_ ?_ ?_ ?_
    · exact ⟨-1, _, _, rfl, Same.refl _, fun y _ => by omega⟩
    · rintro i σ H1 _ ⟨h, y4, y5, _, s3, _⟩
      exact sqL_same s3 el
    · rintro i v σ H3 H1 hi ⟨h, y4, y5, rfl, s3, h3⟩ ⟨rfl, ex⟩
      obtain ⟨x, hx, rfl⟩ := at_map ex
      have d3 := s3 _ _ d2
      have g1 := DGet.k (k := .inr x) d3
      rw [came x (il.1 x (List.mem_of_getElem? hx))] at g1
      have hh := h3 x (at_drop hx)
      refine ⟨.str x, rfl, .ref D, rfl, D, _, rfl, g1, _, rfl, ?_⟩
      refine ⟨.ref D, rfl, .str x, rfl, D, _, rfl, g1, .int h, rfl, _, _, rfl, rfl, _, rfl, ?_⟩
      rw [decide_eq_false (by omega)]
      exact ⟨.ref D, rfl, .str x, rfl, D, _, rfl, g1, _, _, _, rfl, s3, fun y hy => Int.ofNat_le.mpr (line_next hx il.2 y hy)⟩
    · rintro σ H1 ⟨h, y4, y5, rfl, s3, h3⟩
      exact q H1 (s2.trans s3)
  · refine .inr ⟨.ref e, rfl, e, rfl, ⟨_, el⟩, ?_⟩
    refine for_it (walk_tup (xs := elders.map V.str)) (fun i σ H1 => ∃ (h : Int) (y4 y5 : Option V), σ = [some (.ref t), some (.ref e), some (.ref D), some (.int h), y4, y5] ∧ Same H2 H1 ∧ (∀ y ∈ elders.drop i, h ≤ (line.idxOf y : Nat))) ?_ ?_ ?_ ?_
    · exact ⟨-1, _, _, rfl, Same.refl _, fun y _ => by omega⟩
    · rintro i σ H1 _ ⟨h, y4, y5, _, s3, _⟩
      exact sqT_same s3 el
    · rintro i v σ H3 H1 hi ⟨h, y4, y5, rfl, s3, h3⟩ ⟨rfl, ex⟩
      obtain ⟨x, hx, rfl⟩ := at_map ex
      have d3 := s3 _ _ d2
      have g1 := DGet.k (k := .inr x) d3
      rw [came x (il.1 x (List.mem_of_getElem? hx))] at g1
      have hh := h3 x (at_drop hx)
      refine ⟨.str x, rfl, .ref D, rfl, D, _, rfl, g1, _, rfl, ?_⟩
      refine ⟨.ref D, rfl, .str x, rfl, D, _, rfl, g1, .int h, rfl, _, _, rfl, rfl, _, rfl, ?_⟩
      rw [decide_eq_false (by omega)]
      exact ⟨.ref D, rfl, .str x, rfl, D, _, rfl, g1, _, _, _, rfl, s3, fun y hy => Int.ofNat_le.mpr (line_next hx il.2 y hy)⟩
    · rintro σ H1 ⟨h, y4, y5, rfl, s3, h3⟩
      exact q H1 (s2.trans s3)
abbrev sAstray : Stmt := topS 19
abbrev nAstray : List Str := ["line", "elders", "who"]
theorem scAstray : FnScope nAstray ["line", "elders"] (defScope sAstray) := ⟨rfl, rfl, rfl, by decide +kernel, rfl, by decide +kernel, by decide +kernel⟩
theorem ok_astray {f : Addr} {fd : FuncData} (CF : Cal P w K mg base 1 "first_astray" ["line", "elders"] (spAstray K)) (F : Fun K "refuse_astray" "refuse_astray" sAstray f fd) : FnOk P w K mg base CX0 2 f fd ["line", "elders"] (spAstray K) := by
  refine fok F scAstray (fun vs H Q E h => ?_) (fun cdv A outer s H vs Q E hr h => ?_)
  · obtain ⟨t, e, line, elders, rfl, _⟩ := h
    rfl
  obtain ⟨t, e, line, elders, rfl, ht, nd, ln, he, il, q⟩ := h
  refine ⟨_, pss_cons (ps_set (i := 2) scAstray.nd rfl (.inl rfl) (pe_cal CF hr (pa_cons (pv 0) (pa_cons (pv 1) pa_nil))))
    (pss_one (ps_if (pt_cmp (pc_notN (pv 2))) (pss_one ps_never) pss_nil)), ?_⟩
  refine ⟨_, rfl, _, rfl, t, e, line, elders, rfl, ht, nd, ln, he, il, fun H1 s1 => ?_⟩
  exact ⟨_, rfl, _, rfl, q H1 s1⟩
abbrev sNever : Stmt := topS 24
abbrev nNever : List Str := ["friends", "served", "row", "elders", "deeds", "left"]
theorem scNever : FnScope nNever ["friends", "served", "row", "elders"] (defScope sNever) := ⟨rfl, rfl, rfl, by decide +kernel, rfl, by decide +kernel, by decide +kernel⟩
theorem ok_never {f : Addr} {fd : FuncData} (CL : Cal P w K mg base 1 "line_of" ["served", "row"] spLineOf) (CA : Cal P w K mg base 2 "refuse_astray" ["line", "elders"] (spAstray K)) (CT : Cal P w K mg base 5 "traced_back" ["friends", "served", "row", "elders", "waits"] (spTraced K)) (F : Fun K "never_in" "never_in" sNever f fd) : FnOk P w K mg base CX0 6 f fd ["friends", "served", "row", "elders"] (spNever K) := by
  refine fok F scNever (fun vs H Q E h => ?_) (fun cdv A outer s H vs Q E hr h => ?_)
  · obtain ⟨a, sv, r, e, ps, svd, row, elders, rfl, _⟩ := h
    rfl
  obtain ⟨a, sv, r, e, ps, svd, row, elders, rfl, ha, hp, irr, hsv, hrow, he, il, nd, ln, lne, q⟩ := h
  refine ⟨_, pss_cons (ps_expr (pe_cal CA hr (pa_cons (pe_cal CL hr (pa_cons (pv 1) (pa_cons (pv 2) pa_nil))) (pa_cons (pv 3) pa_nil))))
    (pss_cons (ps_asg (pe_cal CT hr (pa_cons (pv 0) (pa_cons (pv 1) (pa_cons (pv 2) (pa_cons (pv 3) (pa_cons pe_dnewK pa_nil)))))) (pg_tup rfl (pgs_cons (pg_name (i := 4) scNever.nd rfl (.inl rfl)) (pgs_cons (pg_name (i := 5) scNever.nd rfl (.inl rfl)) pgs_nil))))
    (pss_one (ps_ret (pv 5)))), ?_⟩
  refine ⟨_, rfl, _, rfl, sv, r, svd, row, rfl, hsv, hrow, ln, fun t H1 s1 e1 => ?_⟩
  refine ⟨_, rfl, t, e, svd ++ row, elders, rfl, e1, nd, ?_, (fun H' s => he H' (s1.trans s)), il, fun H2 s2 => ?_⟩
  · rw [List.length_append]
    exact ln
  have s02 := s1.trans s2
  refine ⟨_, rfl, _, rfl, _, rfl, _, rfl, fun wd hwd => ?_⟩
  have s3 := same_upd (o := .dK []) hwd
  have s03 := s02.trans s3
  refine ⟨a, sv, r, e, wd, ps, svd, row, elders, none, rfl, ha.same s03, hp, irr, hsv.same s03, hrow.same s03, (fun H' s => he H' (s03.trans s)), upd_same, nd, ln, lne, fun T u l ds H4 s4 eT eu du mu el => ?_⟩
  refine ⟨T, _, rfl, .inl (.inl eT), rfl, _, _, rfl, _, _, rfl, rfl, .ref l, rfl, ?_⟩
  exact q l H4 (s03.trans s4) el
theorem cal_never {f D E : Addr} {oc : Value} {od an ed : Option Addr} {osl es : Array (Option Value)} {doc pm cdv ct : Value} {en : Nat}
    (l : K.lookup f = some ⟨oc, od, .func (PySem.W.fnOf "never_in" "never_in" (defArgs sNever) (defBody sNever) (defScope sNever) .none (.ref D) doc pm an cdv ct), osl⟩) (c : PySem.W.codeIn K cdv "never_in" = true) (kp : PySem.W.keepIn K (.ref f) = true) (n : PySem.W.nsIn K D "elders" = some (some (.ref E)))
    (e : K.lookup E = some ⟨.type "tuple", ed, .seq #[] en, es⟩) (hm : mg "never_in" = some (.ref f)) (CL : Cal P w K mg base 1 "line_of" ["served", "row"] spLineOf) (CA : Cal P w K mg base 2 "refuse_astray" ["line", "elders"] (spAstray K)) (CT : Cal P w K mg base 5 "traced_back" ["friends", "served", "row", "elders", "waits"] (spTraced K)) : CalK P w K mg base 6 "never_in" ["friends", "served", "row", "elders"] 3 "elders" (spNever K) E :=
  calk_mk l c kp n e hm (ok_never CL CA CT (fun_mk l c kp)) rfl (fun _ _ _ _ _ _ us ws h1 h2 => match us, ws, h1, h2 with | [_, _, _], [_], _, _ => rfl)
    (fun _ _ _ _ _ _ us ks h1 h2 => match us, ks, h1, h2 with | [_, _, _], [_], _, _ => ⟨_, _, _, _, _, _, rfl, rfl, rfl⟩)
/-! ### times_of -/
abbrev sTimes : Stmt := topS 25
abbrev nTimes : List Str := ["friends", "served", "row", "who", "elders", "times", "many", "deeds", "left"]
theorem scTimes : FnScope nTimes ["friends", "served", "row", "who", "elders"] (defScope sTimes) := ⟨rfl, rfl, rfl, by decide +kernel, rfl, by decide +kernel, by decide +kernel⟩
theorem ok_times {f : Addr} {fd : FuncData} (B : Blt mg) (CL : Cal P w K mg base 1 "line_of" ["served", "row"] spLineOf) (CA : Cal P w K mg base 2 "refuse_astray" ["line", "elders"] (spAstray K)) (CT : Cal P w K mg base 5 "traced_back" ["friends", "served", "row", "elders", "waits"] (spTraced K)) (F : Fun K "times_of" "times_of" sTimes f fd) : FnOk P w K mg base CX0 6 f fd ["friends", "served", "row", "who", "elders"] (spTimes K) := by
  refine fok F scTimes (fun vs H Q E h => ?_) (fun cdv A outer s H vs Q E hr h => ?_)
  · obtain ⟨a, sv, r, e, who, ps, svd, row, elders, rfl, _⟩ := h
    rfl
  obtain ⟨a, sv, r, e, who, ps, svd, row, elders, rfl, ha, hp, irr, hsv, hrow, he, il, nd, ln, lne, q⟩ := h
  refine ⟨_, pss_cons (ps_expr (pe_cal CA hr (pa_cons (pe_cal CL hr (pa_cons (pv 1) (pa_cons (pv 2) pa_nil))) (pa_cons (pv 4) pa_nil))))
    (pss_cons (ps_set (i := 5) scTimes.nd rfl (.inl rfl) (pe_lst pa_nil))
    (pss_cons (ps_for PassesOwn.never rfl (pi_range1 (by rfl) B.range (pa_cons (pe_op op_add (pe_callB call_len_seq (by rfl) B.len PySem.boot_len (pa_cons (pv 1) pa_nil)) pe_int) pa_nil)) (pg_name (i := 6) scTimes.nd rfl (.inl rfl))
      (pss_cons (ps_asg (pe_cal CT hr (pa_cons (pv 0) (pa_cons (pv 1) (pa_cons (pv 2) (pa_cons (pv 4) (pa_cons (pe_disp (pps_cons (pv 3) (pv 6) pps_nil) (by rfl) (by rfl) (fun z => by cases z) (by decide)) pa_nil)))))) (pg_tup rfl (pgs_cons (pg_name (i := 7) scTimes.nd rfl (.inl rfl)) (pgs_cons (pg_name (i := 8) scTimes.nd rfl (.inl rfl)) pgs_nil))))
      (pss_one (ps_if (pt_not (pt_truth (pv 8) (by intro _; rfl))) (pss_one (ps_expr (pe_bm PySem.F.plainAttrs_list PySem.F.slot_list_append PySem.F.type_list_append mt_append (pv 5) (pa_cons (pv 6) pa_nil)))) pss_nil))))
    (pss_one (ps_ret (pv 5))))), ?_⟩
  refine ⟨_, rfl, _, rfl, sv, r, svd, row, rfl, hsv, hrow, ln, fun t H1 s1 e1 => ?_⟩
  refine ⟨_, rfl, t, e, svd ++ row, elders, rfl, e1, nd, ?_, (fun H' s => he H' (s1.trans s)), il, fun H2 s2 => ?_⟩
  · rw [List.length_append]
    exact ln
  have s02 := s1.trans s2
  refine ⟨(by show 0 ≤ sizeLine; decide), fun tl htl => ?_⟩
  have s3 := same_upd (o := .lst []) htl
  have s03 := s02.trans s3
  have htl0 : H tl = none := s02.free htl
  have sq : ∀ {H' : Hp} {x : Addr} {xs : List Str}, RowAt H' x xs → (SqL K H' x (xs.map V.str) ∨ SqT K H' x (xs.map V.str)) := fun h => h.elim (fun e => .inr e.sq) (fun e => .inl (.inl (.inl e)))
  refine ⟨.ref sv, rfl, sv, _, rfl, sq (hsv.same s03), _, _, rfl, rfl, _, rfl, (by rw [List.length_map]; omega), (by rw [List.length_map]; omega), ?_⟩
  rw [List.length_map]
  refine for_it (walk_range (lo := 0) (n := ((svd.length : Int) + 1).toNat)) (fun i σ H' => ∃ (y6 y7 y8 : Option V), σ = [some (.ref a), some (.ref sv), some (.ref r), some (.str who), some (.ref e), some (.ref tl), y6, y7, y8] ∧ Same H H' ∧ H' tl = some (.lst (intsV (timesL ps elders svd row who i)))) ?_ (fun _ _ _ _ _ => trivial) ?_ ?_
  · exact ⟨_, _, _, rfl, s03, upd_same⟩
  · rintro i x σ H6 H5 hi ⟨y6, y7, y8, rfl, s5, l5⟩ ⟨rfl, rfl⟩
    rw [show ((fun i : Nat => V.int ((0 : Int) + (i : Int))) i) = V.int ((i : Nat) : Int) from congrArg V.int (by omega)]
    refine ⟨_, rfl, _, rfl, _, rfl, _, rfl, fun wd hwd => ?_⟩
    refine ⟨.str who, rfl, _, rfl, upd_same, [(.inr who, .int (i : Nat))], rfl, (by show 1 ≤ 15; decide), ?_⟩
    have hwd2 : upd H5 wd (.dK []) wd = some (.dK []) := upd_same
    have s6 : Same H5 (upd (upd H5 wd (.dK [])) wd (.dK (mergeK [] [((Sum.inr who : Key), V.int (i : Nat))]))) := fun b o z => by
      rw [upd_ne (ne_of_none z hwd), upd_ne (ne_of_none z hwd)]
      exact z
    have s06 := s5.trans s6
    refine ⟨a, sv, r, e, wd, ps, svd, row, elders, some (who, i), rfl, ha.same s06, hp, irr, hsv.same s06, hrow.same s06, (fun H' s => he H' (s06.trans s)), upd_same, nd, ln, lne, fun T u l ds H7 s7 eT eu du mu el => ?_⟩
    refine ⟨T, _, rfl, .inl (.inl eT), rfl, _, _, rfl, _, _, rfl, rfl, ?_⟩
    have s57 := s6.trans s7
    have l7 := s57 _ _ l5
    refine ⟨.ref l, rfl, _, .inr (.inl ⟨_, el.sq, rfl⟩), ite2 (fun c => ?_) (fun c => ?_)⟩
    · have e0 : leftAt ps elders svd row who i = [] := by
        show (trace ps (stayF elders (some (who, i))) svd svd.length row).2.filter (fun x => !decide (x ∈ elders)) = []
        cases e : (trace ps (stayF elders (some (who, i))) svd svd.length row).2.filter (fun x => !decide (x ∈ elders)) with
        | nil => rfl
        | cons x l => rw [e] at c; exact absurd c (fun z => nomatch z)
      refine ⟨.ref tl, rfl, .inl ⟨rfl, _, .inl (.inl l7)⟩, _, rfl, tl, _, _, rfl, rfl, l7, ?_, ?_⟩
      · unfold intsV timesL
        rw [List.length_map]
        refine small1000 ?_
        have := List.length_filter_le (fun m => decide (leftAt ps elders svd row who m = [])) (List.range i)
        rw [List.length_range] at this
        omega
      refine ⟨_, _, _, rfl, fun b o z => ?_, ?_⟩
      · rw [upd_ne (ne_of_none z htl0)]
        exact s57 _ _ (s5 _ _ z)
      · rw [upd_same, timesL_succ, if_pos e0]
        unfold intsV
        rw [List.map_append]
        rfl
    · have e0 : leftAt ps elders svd row who i ≠ [] := fun z => by
        have z' : (trace ps (stayF elders (some (who, i))) svd svd.length row).2.filter (fun x => !decide (x ∈ elders)) = [] := z
        rw [z'] at c
        exact c rfl
      refine ⟨_, _, _, rfl, s5.trans s57, ?_⟩
      rw [timesL_succ, if_neg e0, List.append_nil]
      exact l7
  · rintro σ H5 ⟨y6, y7, y8, rfl, s5, l5⟩
    rw [show ((svd.length : Int) + 1).toNat = svd.length + 1 by omega] at l5
    exact ⟨_, rfl, q tl H5 s5 htl0 l5⟩
theorem cal_times {f D E : Addr} {oc : Value} {od an ed : Option Addr} {osl es : Array (Option Value)} {doc pm cdv ct : Value} {en : Nat}
    (l : K.lookup f = some ⟨oc, od, .func (PySem.W.fnOf "times_of" "times_of" (defArgs sTimes) (defBody sTimes) (defScope sTimes) .none (.ref D) doc pm an cdv ct), osl⟩) (c : PySem.W.codeIn K cdv "times_of" = true) (kp : PySem.W.keepIn K (.ref f) = true) (n : PySem.W.nsIn K D "elders" = some (some (.ref E)))
    (e : K.lookup E = some ⟨.type "tuple", ed, .seq #[] en, es⟩) (hm : mg "times_of" = some (.ref f)) (B : Blt mg) (CL : Cal P w K mg base 1 "line_of" ["served", "row"] spLineOf) (CA : Cal P w K mg base 2 "refuse_astray" ["line", "elders"] (spAstray K)) (CT : Cal P w K mg base 5 "traced_back" ["friends", "served", "row", "elders", "waits"] (spTraced K)) : CalK P w K mg base 6 "times_of" ["friends", "served", "row", "who", "elders"] 4 "elders" (spTimes K) E :=
  calk_mk l c kp n e hm (ok_times B CL CA CT (fun_mk l c kp)) rfl (fun _ _ _ _ _ _ us ws h1 h2 => match us, ws, h1, h2 with | [_, _, _, _], [_], _, _ => rfl)
    (fun _ _ _ _ _ _ us ks h1 h2 => match us, ks, h1, h2 with | [_, _, _, _], [_], _, _ => ⟨_, _, _, _, _, _, rfl, rfl, rfl⟩)
/-! ### clause -/
abbrev sClause : Stmt := topS 21
abbrev nClause : List Str := ["known", "line", "many", "there", "who", "place", "host", "behind", "other", "friends_behind", "between"]
abbrev pClause : List Str := ["known", "line", "many", "there", "who"]
theorem scClause : FnScope nClause pClause (defScope sClause) := ⟨rfl, rfl, rfl, by decide +kernel, rfl, by decide +kernel, by decide +kernel⟩
-- slots: 0:known* 1:line 2:many 3:there* 4:who* 5:place 6:host 7:behind 8:other 9:friends_behind 10:between
theorem ok_clause {f : Addr} {fd : FuncData} (B : Blt mg) (CL : Cal P w K mg base 1 "last_friend_place" ["known", "row", "who"] spLfp) (F : Fun K "clause" "clause" sClause f fd) : FnOk P w K mg base CX0 2 f fd pClause (spClause K) := by
  refine fok F scClause (fun vs H Q E h => ?_) (fun cdv A outer s H vs Q E hr h => ?_)
  · obtain ⟨d, t, l, ps, line, there, who, many, rfl, _⟩ := h
    rfl
  have hu := hu_of hr
  refine ⟨_, pss_cons (ps_set (i := 5) scClause.nd rfl (.inl rfl) (pe_bmT PySem.F.slot_tuple_index PySem.F.type_tuple_index mt_tup_index (pv 1) (pa_cons (pv 4) pa_nil)))
    (pss_cons (ps_set (i := 6) scClause.nd rfl (.inl rfl) (pe_cal CL hr (pa_cons (pv 0) (pa_cons (pe_slice sl_tupM (pv 1) po_none (po_some (pv 5))) (pa_cons (pv 4) pa_nil)))))
    (pss_cons (ps_setLc (i := 7) (own := [("other", 8)]) (g := gName 8) (tt := tTest (tOp (rIn K false) (tVar 8) (tVar 3))) (te := tVar 8) rfl scClause.nd rfl rfl (sw_true rfl rfl rfl (by decide +kernel)) (pi_tup (pe_slice sl_tupM (pv 1) (po_some (pe_op op_add (pv 5) pe_int)) po_none)) (blkOk_by (N := nClause) (sc := defScope sClause) (by decide +kernel)) (fun _ _ _ _ _ => pg_name (i := 8) scClause.nd rfl (Or.inl rfl)) (fun _ _ _ _ _ => pts_one (pt_cmpR op_in_seq (pv 8) (pv 3) (by rfl))) (fun _ _ _ _ _ => pv 8))
    (pss_cons (ps_setLc (i := 9) (own := [("other", 8)]) (g := gName 8) (tt := tB (tDIn (tTup (tCons (tVar 4) (tCons (tVar 8) tNil))) (tVar 0))) (te := tVar 8) rfl scClause.nd rfl rfl (sw_true rfl rfl rfl (by decide +kernel)) (pi_list (pv 7)) (blkOk_by (N := nClause) (sc := defScope sClause) (by decide +kernel)) (fun _ _ _ _ _ => pg_name (i := 8) scClause.nd rfl (Or.inl rfl)) (fun _ _ _ _ _ => pts_one (pt_cmp (pc_din hu (pe_tup (pa_cons (pv 4) (pa_cons (pv 8) pa_nil))) (pv 0)))) (fun _ _ _ _ _ => pv 8))
    (pss_cons (ps_if (pt_tr (pv 9))
      (pss_one (ps_ret (pe_tupF (pa_cons (pv 4) (pa_cons pe_str (pa_cons (pe_tupF (pa_cons (pe_ix ix_list (pv 9) pe_int (fun _ _ => rfl)) pa_nil)) pa_nil))))))
      pss_nil)
    (pss_cons (ps_if (pt_cmp (pc_isN (pv 6)))
      (pss_one (ps_ret (pe_tupF (pa_cons (pv 4) (pa_cons pe_str (pa_cons (pe_tupF (pa_cons (pe_ix ix_list (pv 7) pe_int (fun _ _ => rfl)) pa_nil)) pa_nil))))))
      pss_nil)
    (pss_cons (ps_setLc (i := 10) (own := [("other", 8)]) (g := gName 8) (tt := tTest (tOp (rIn K false) (tVar 8) (tVar 3))) (te := tVar 8) rfl scClause.nd rfl rfl (sw_true rfl rfl rfl (by decide +kernel)) (pi_tup (pe_slice sl_tupM (pv 1) (po_some (pe_op op_add (pv 6) pe_int)) (po_some (pv 5)))) (blkOk_by (N := nClause) (sc := defScope sClause) (by decide +kernel)) (fun _ _ _ _ _ => pg_name (i := 8) scClause.nd rfl (Or.inl rfl)) (fun _ _ _ _ _ => pts_one (pt_cmpR op_in_seq (pv 8) (pv 3) (by rfl))) (fun _ _ _ _ _ => pv 8))
    (pss_cons (ps_if (pt_cmpR op_lt (pv 6) (pv 2) (nomark _))
      (pss_one (ps_ret (pe_tupF (pa_cons (pv 4) (pa_cons pe_str (pa_cons (pe_tupF (pa_cons (pe_ix ix_list (pv 10) pe_int (fun _ _ => rfl)) (pa_cons (pe_ix ix_list (pv 7) pe_int (fun _ _ => rfl)) pa_nil))) pa_nil))))))
      pss_nil)
    (pss_one (ps_ret (pe_tupF (pa_cons (pv 4) (pa_cons pe_str (pa_cons (pe_tupF (pa_cons (pe_ix ix_list (pv 10) pe_int (fun _ _ => rfl)) pa_nil)) pa_nil))))))))))))), ?_⟩
  obtain ⟨d, t, l, ps, line, there, who, many, rfl, hd, ht, nd, hn, hl, hw, tel, q⟩ := h
  obtain ⟨i, hi⟩ := List.mem_iff_getElem?.mp hw
  have ii := idx_at nd hi
  have lti : i < line.length := (List.getElem?_eq_some_iff.mp hi).1
  refine ⟨.ref t, rfl, ⟨t, _, rfl, ht⟩, _, rfl, t, line, who, i, rfl, rfl, ht.sq, hi, (fun m hm hm2 => by have := nd_ix nd hi hm2; omega), ?_⟩
  -- the host
  refine ⟨.ref d, rfl, .ref t, rfl, _, rfl, _, rfl, t, _, rfl, ht, fun t1 H1 s1 e1 => ?_⟩
  rw [cutV_map, cutL_to] at e1
  refine ⟨_, rfl, d, t1, ps, line.take i, who, rfl, hd.same s1, .inl e1, by rw [List.length_take]; omega, fun H2 s2 => ?_⟩
  have s02 := s1.trans s2
  -- those behind
  refine ⟨.ref t, rfl, _, rfl, _, _, rfl, rfl, _, rfl, t, _, rfl, ht.same s02, fun t3 H3 s3 e3 => ?_⟩
  rw [show ((i : Int) + 1) = ((i + 1 : Nat) : Int) from rfl, cutV_map, cutL_from] at e3
  have s03 := s02.trans s3
  refine ⟨t3, rfl, ⟨_, e3.sq⟩, fun L hL => ?_⟩
  refine lc_take (walk_tup (xs := (line.drop (i + 1)).map V.str)) (fun y => decide (y ∈ there)) (by rw [List.length_drop]; omega) hL (fun H' s => (e3.same s).sq) ?_ ?_
  · rintro k y v H4 H4' kk k0 hy s4 ⟨rfl, ex⟩ k1 k2
    rw [ix_map hy] at ex
    cases ex
    refine ⟨rfl, .str y, rfl, .ref l, rfl, l, _, rfl, .inl (.inl (.inl (s4 _ _ (s03 _ _ hl)))), rfl, flat_strs _, _, rfl, ?_⟩
    rw [inV_strs]
    exact ite2 (fun c => ⟨_, rfl, k1 c _ (Same.refl _)⟩) (fun c => k2 (Bool.eq_false_iff.mpr c) _ (Same.refl _))
  intro H4 s4 e4
  have eb : (line.drop (i + 1)).filter (fun y => decide (y ∈ there)) = behindL line there who := by
    unfold behindL
    rw [ii]
  rw [eb] at e4
  have lb : (behindL line there who).length ≤ 60 := by
    rw [← eb]
    refine Nat.le_trans (List.length_filter_le _ _) ?_
    rw [List.length_drop]
    omega
  have s04 := s03.trans s4
  -- friends behind
  refine ⟨.ref L, rfl, L, rfl, ⟨_, .inl (.inl e4)⟩, fun L2 hL2 => ?_⟩
  refine lc_take (walk_list (xs := (behindL line there who).map V.str)) (frd ps who) (by omega) hL2 (fun H' s => .inl (.inl (s _ _ e4))) ?_ ?_
  · rintro k y v H5 H5' kk k0 hy s5 ⟨rfl, ex⟩ k1 kn
    rw [ix_map hy] at ex
    cases ex
    refine ⟨rfl, _, rfl, _, rfl, (by show 2 ≤ sizeLine; decide), fun p hp => ?_⟩
    have s6 := same_upd (o := .tup [.str who, .str y]) hp
    obtain ⟨kvs, k3, k4⟩ := hd.same ((s04.trans s5).trans s6)
    refine ⟨.ref d, rfl, d, _, rfl, DGet.t (k := k2 who y) k3 upd_same, _, rfl, ?_⟩
    rw [k4]
    exact ite2 (fun c => ⟨_, rfl, k1 c _ s6⟩) (fun c => kn (Bool.eq_false_iff.mpr c) _ s6)
  intro H5 s5 e5
  have s05 := s04.trans s5
  have e45 := s5 _ _ e4
  have one : ∀ {xs : List Str}, xs ≠ [] → ∃ x r, xs = x :: r := fun {xs} h => by
    cases xs with
    | nil => exact absurd rfl h
    | cons x r => exact ⟨x, r, rfl⟩
  refine ⟨.ref L2, rfl, _, .inl ⟨_, .inl (.inl e5), rfl⟩, ite2 (fun c => ?_) (fun c => ?_)⟩
  · obtain ⟨f, r, ef⟩ := one (xs := (behindL line there who).filter (frd ps who)) (fun z => by rw [z] at c; cases c)
    rw [ef] at e5
    refine ⟨_, rfl, .ref L2, rfl, L2, _, 0, .str f, rfl, rfl, .inl (.inl e5), atI_nat (j := 0) rfl, (by show 1 ≤ sizeLine; decide), fun o H6 s6 n6 e6 => ?_⟩
    refine ⟨(by show 3 ≤ sizeLine; decide), fun T H7 s7 n7 e7 => ?_⟩
    refine q T o H7 ((s05.trans s6).trans s7) ?_
    have er : reasonOf ps line many there who = (("friend" : Str), [f]) := by
      unfold reasonOf
      rw [ef]
    rw [er]
    exact ⟨e7, e6.same s7⟩
  have nof : (behindL line there who).filter (frd ps who) = [] := by
    cases e : (behindL line there who).filter (frd ps who) with
    | nil => rfl
    | cons x r => rw [e] at c; exact absurd rfl c
  rcases tel with z | ⟨eh, nb⟩ | ⟨h, eh, nbw, nb⟩
  · exact absurd nof z
  · have eh' := eh
    rw [ii] at eh'
    obtain ⟨z, r, ez⟩ := one nb
    rw [eh']
    refine ⟨_, rfl, _, rfl, ite2 (fun _ => ?_) (fun z => absurd rfl z)⟩
    rw [ez] at e45
    refine ⟨_, rfl, .ref L, rfl, L, _, 0, .str z, rfl, rfl, .inl (.inl e45), atI_nat (j := 0) rfl, (by show 1 ≤ sizeLine; decide), fun o H6 s6 n6 e6 => ?_⟩
    refine ⟨(by show 3 ≤ sizeLine; decide), fun T H7 s7 n7 e7 => ?_⟩
    refine q T o H7 ((s05.trans s6).trans s7) ?_
    have er : reasonOf ps line many there who = (("behind" : Str), [z]) := by
      unfold reasonOf
      rw [nof, eh, ez]
      rfl
    rw [er]
    exact ⟨e7, e6.same s7⟩
  · have eh' := eh
    rw [ii] at eh'
    have lth := lastP_lt eh'
    rw [List.length_take] at lth
    rw [eh']
    refine ⟨_, rfl, _, rfl, ite2 (fun z => nomatch z) (fun _ => ?_)⟩
    -- those between
    refine ⟨.ref t, rfl, _, rfl, _, _, rfl, rfl, _, rfl, _, rfl, _, rfl, t, _, rfl, ht.same s05, fun t6 H6 s6 e6 => ?_⟩
    rw [show ((h : Int) + 1) = ((h + 1 : Nat) : Int) from rfl, cutV_map, cutL_mid _ _ _ (by omega)] at e6
    have s06 := s05.trans s6
    refine ⟨t6, rfl, ⟨_, e6.sq⟩, fun L3 hL3 => ?_⟩
    refine lc_take (walk_tup (xs := ((line.take i).drop (h + 1)).map V.str)) (fun y => decide (y ∈ there)) (by rw [List.length_drop, List.length_take]; omega) hL3 (fun H' s => (e6.same s).sq) ?_ ?_
    · rintro k y v H7 H7' kk k0 hy s7 ⟨rfl, ex⟩ k1 k2
      rw [ix_map hy] at ex
      cases ex
      refine ⟨rfl, .str y, rfl, .ref l, rfl, l, _, rfl, .inl (.inl (.inl (s7 _ _ (s06 _ _ hl)))), rfl, flat_strs _, _, rfl, ?_⟩
      rw [inV_strs]
      exact ite2 (fun c => ⟨_, rfl, k1 c _ (Same.refl _)⟩) (fun c => k2 (Bool.eq_false_iff.mpr c) _ (Same.refl _))
    intro H7 s7 e7
    have ebw : ((line.take i).drop (h + 1)).filter (fun y => decide (y ∈ there)) = betweenL line there who h := by
      unfold betweenL
      rw [ii]
    rw [ebw] at e7
    obtain ⟨y, r, ey⟩ := one nbw
    rw [ey] at e7
    have s07 := s06.trans s7
    refine ⟨_, rfl, _, rfl, _, _, rfl, rfl, _, rfl, ite2 (fun c => ?_) (fun c => ?_)⟩
    · have hm : h < many := by
        have := of_decide_eq_true c
        omega
      obtain ⟨z, r2, ez⟩ := one (nb hm)
      have e47 := s7 _ _ (s6 _ _ e45)
      rw [ez] at e47
      refine ⟨_, rfl, .ref L3, rfl, L3, _, 0, .str y, rfl, rfl, .inl (.inl e7), atI_nat (j := 0) rfl, .ref L, rfl, L, _, 0, .str z, rfl, rfl, .inl (.inl e47), atI_nat (j := 0) rfl, (by show 2 ≤ sizeLine; decide), fun o H8 s8 n8 e8 => ?_⟩
      refine ⟨(by show 3 ≤ sizeLine; decide), fun T H9 s9 n9 e9 => ?_⟩
      refine q T o H9 ((s07.trans s8).trans s9) ?_
      have er : reasonOf ps line many there who = (("between" : Str), [y, z]) := by
        unfold reasonOf
        rw [nof, eh]
        show (("between" : Str), (betweenL line there who h).take 1 ++ (if h < many then (behindL line there who).take 1 else [])) = _
        rw [ey, ez, if_pos hm]
        rfl
      rw [er]
      exact ⟨e9, e8.same s9⟩
    · have hm : ¬ h < many := fun z => c (decide_eq_true (by omega))
      refine ⟨_, rfl, .ref L3, rfl, L3, _, 0, .str y, rfl, rfl, .inl (.inl e7), atI_nat (j := 0) rfl, (by show 1 ≤ sizeLine; decide), fun o H8 s8 n8 e8 => ?_⟩
      refine ⟨(by show 3 ≤ sizeLine; decide), fun T H9 s9 n9 e9 => ?_⟩
      refine q T o H9 ((s07.trans s8).trans s9) ?_
      have er : reasonOf ps line many there who = (("between" : Str), [y]) := by
        unfold reasonOf
        rw [nof, eh]
        show (("between" : Str), (betweenL line there who h).take 1 ++ (if h < many then (behindL line there who).take 1 else [])) = _
        rw [ey, if_neg hm]
        rfl
      rw [er]
      exact ⟨e9, e8.same s9⟩
/-! ### paper_of -/
abbrev sPaper : Stmt := topS 22
abbrev nPaper : List Str := ["friends", "served", "row", "elders", "left", "known", "line", "there", "who"]
abbrev pPaper : List Str := ["friends", "served", "row", "elders", "left"]
theorem scPaper : FnScope nPaper pPaper (defScope sPaper) := ⟨rfl, rfl, rfl, by decide +kernel, rfl, by decide +kernel, by decide +kernel⟩
-- slots: 0:friends 1:served* 2:row 3:elders 4:left 5:known* 6:line* 7:there* 8:who
theorem ok_paper {f : Addr} {fd : FuncData} (B : Blt mg) (CBo : Cal P w K mg base 1 "both_ways" ["friends"] spBoth) (CCla : Cal P w K mg base 2 "clause" ["known", "line", "many", "there", "who"] (spClause K)) (CLin : Cal P w K mg base 1 "line_of" ["served", "row"] spLineOf) (F : Fun K "paper_of" "paper_of" sPaper f fd) : FnOk P w K mg base CX0 3 f fd pPaper (spPaper K) := by
  refine fok F scPaper (fun vs H Q E h => ?_) (fun cdv A outer s H vs Q E hr h => ?_)
  · obtain ⟨a, sv, r, e, l, ps, svd, row, elders, left, rfl, _⟩ := h
    rfl
  have hu := hu_of hr
  refine ⟨_, pss_cons (ps_set (i := 5) scPaper.nd rfl (.inr rfl) (pe_cal CBo hr (pa_cons (pv 0) pa_nil)))
    (pss_cons (ps_set (i := 6) scPaper.nd rfl (.inr rfl) (pe_cal CLin hr (pa_cons (pv 1) (pa_cons (pv 2) pa_nil))))
    (pss_cons (ps_set (i := 7) scPaper.nd rfl (.inr rfl) (pe_op op_cat (pe_callTy call_list_of (by rfl) B.list (by decide +kernel) (pa_cons (pv 4) pa_nil)) (pe_callTy call_list_of (by rfl) B.list (by decide +kernel) (pa_cons (pv 3) pa_nil))))
    (pss_one (ps_ret (pe_lc (own := [("who", 8)]) (g := gName 8) (tt := tYes) (te := tCall (spClause K) [] E0 (tCons (tVar 5) (tCons (tVar 6) (tCons (tCB (fun xs H Q => ∃ p ys, xs = [.ref p] ∧ (SqL K H p ys ∨ SqT K H p ys) ∧ Q (.int ys.length) H) (tCons (tVar 1) tNil)) (tCons (tVar 7) (tCons (tVar 8) tNil)))))) rfl scPaper.nd (pi_tup (pv 4)) (blkOk_by (N := nPaper) (sc := defScope sPaper) (by decide +kernel)) (fun _ _ _ _ _ => pg_name (i := 8) scPaper.nd rfl (Or.inl rfl)) (fun _ _ _ _ _ => pts_nil) (fun _ _ _ _ _ => pe_cal CCla hr (pa_cons (pv 5) (pa_cons (pv 6) (pa_cons (pe_callB call_len_seq (by rfl) B.len PySem.boot_len (pa_cons (pv 1) pa_nil)) (pa_cons (pv 7) (pa_cons (pv 8) pa_nil))))))))))), ?_⟩
  obtain ⟨a, sv, r, e, l, ps, svd, row, elders, left, rfl, ha, hp, hsv, hrow, he, hl, nd, ln, lne, lnl, tel, q⟩ := h
  refine ⟨.ref a, rfl, a, ps, rfl, ha, hp, fun d H1 s1 n1 k1 => ?_⟩
  refine ⟨_, rfl, _, rfl, sv, r, svd, row, rfl, hsv.same s1, hrow.same s1, ln, fun t H2 s2 e2 => ?_⟩
  have s02 := s1.trans s2
  refine ⟨.ref l, rfl, l, _, rfl, .inr (hl.same s02).sq, fun l1 hl1 => ?_⟩
  have s3 := same_upd (o := .lst (left.map V.str)) hl1
  have s03 := s02.trans s3
  refine ⟨.ref e, rfl, e, _, rfl, he _ s03, fun l2 hl2 => ?_⟩
  have s4 := same_upd (o := .lst (elders.map V.str)) hl2
  refine ⟨l1, l2, _, _, rfl, rfl, s4 _ _ upd_same, upd_same, ?_, fun th hth => ?_⟩
  · rw [List.length_map, List.length_map]
    exact small_le (by omega)
  have s5 := same_upd (o := .lst (left.map V.str ++ elders.map V.str)) hth
  have s05 := (s03.trans s4).trans s5
  have eth : upd (upd (upd H2 l1 (.lst (left.map V.str))) l2 (.lst (elders.map V.str))) th (.lst (left.map V.str ++ elders.map V.str)) th = some (.lst ((left ++ elders).map V.str)) := by
    rw [upd_same, List.map_append]
  generalize upd (upd (upd H2 l1 (.lst (left.map V.str))) l2 (.lst (elders.map V.str))) th (.lst (left.map V.str ++ elders.map V.str)) = H5 at s05 eth s5
  have s25 : Same H2 H5 := (s3.trans s4).trans s5
  have k5 := (k1.same s2).same s25
  have t5 := e2.same s25
  refine ⟨.ref l, rfl, l, rfl, ⟨_, (hl.same s05).sq⟩, fun D hD => ?_⟩
  refine lc_it (walk_tup (xs := left.map V.str)) (fun i H' => ∃ rs : List LR, Same H5 H' ∧ H' D = some (.lst (refsR rs)) ∧ ReasonsAt H' rs ∧ rs.map (fun q => q.2.2) = (left.take i).map (fun x => (x, reasonOf ps (svd ++ row) svd.length (left ++ elders) x))) ?_ ?_ ?_ ?_
  · exact ⟨[], same_upd hD, upd_same, (fun _ h => nomatch h), rfl⟩
  · rintro i H' _ ⟨rs, s6, _⟩
    exact ((hl.same s05).same s6).sq
  · rintro i v H6' H6 hi ⟨rs, s6, d6, r6, m6⟩ ⟨rfl, ev⟩
    obtain ⟨x, hx, rfl⟩ := at_map ev
    obtain ⟨x1, x2⟩ := tel x (List.mem_of_getElem? hx)
    rw [List.length_map] at hi
    have lr : rs.length = i := by
      have := congrArg List.length m6
      rw [List.length_map, List.length_map, List.length_take] at this
      omega
    refine ⟨rfl, _, rfl, _, rfl, .ref sv, rfl, sv, _, rfl, ((hsv.same s05).same s6).sq, _, rfl, _, rfl, d, t, th, ps, svd ++ row, left ++ elders, x, svd.length, congrArg (fun z : Nat => [V.ref d, V.ref t, V.int (z : Int), V.ref th, V.str x]) (List.length_map V.str), k5.same s6, t5.same s6, nd, by rw [List.length_append]; exact ln, s6 _ _ eth, x1, x2, fun T o H7 s7 r7 => ?_⟩
    have d7 := s7 _ _ d6
    refine ⟨_, d7, ?_, rs ++ [(T, o, x, reasonOf ps (svd ++ row) svd.length (left ++ elders) x)], fun b o' z => ?_, ?_, fun q hq => ?_, ?_⟩
    · unfold refsR
      rw [List.length_map]
      exact small1000 (by omega)
    · rw [upd_ne (ne_of_none z hD)]
      exact s7 _ _ (s6 _ _ z)
    · rw [upd_same]
      unfold refsR
      rw [List.map_append]
      rfl
    · rcases List.mem_append.mp hq with z | z
      · exact ((r6 q z).same s7).upd_ d7
      · rw [List.mem_singleton.mp z]
        exact r7.upd_ d7
    · rw [List.map_append, m6, List.take_add_one, hx, List.map_append]
      rfl
  · rintro H6 ⟨rs, s6, d6, r6, m6⟩
    rw [List.length_map, List.take_of_length_le (Nat.le_refl _)] at m6
    exact q D rs H6 (s05.trans s6) (s05.free hD) d6 r6 m6

/-! ### history_of -/
abbrev sHist : Stmt := topS 23
abbrev nHist : List Str := ["friends", "served", "row", "elders", "deeds", "left"]
abbrev pHist : List Str := ["friends", "served", "row", "elders"]
theorem scHist : FnScope nHist pHist (defScope sHist) := ⟨rfl, rfl, rfl, by decide +kernel, rfl, by decide +kernel, by decide +kernel⟩
-- slots: 0:friends 1:served 2:row 3:elders 4:deeds 5:left
theorem ok_histN {f : Addr} {fd : FuncData} (B : Blt mg) (CLin : Cal P w K mg base 1 "line_of" ["served", "row"] spLineOf) (CPap : Cal P w K mg base 3 "paper_of" ["friends", "served", "row", "elders", "left"] (spPaper K)) (CAs : Cal P w K mg base 2 "refuse_astray" ["line", "elders"] (spAstray K)) (CTr : Cal P w K mg base 5 "traced_back" ["friends", "served", "row", "elders", "waits"] (spTracedF K)) (F : Fun K "history_of" "history_of" sHist f fd) : FnOk P w K mg base CX0 6 f fd pHist (spHistN K) := by
  refine fok F scHist (fun vs H Q E h => ?_) (fun cdv A outer s H vs Q E hr h => ?_)
  · obtain ⟨a, sv, r, e, ps, svd, row, elders, rfl, _⟩ := h
    rfl
  have hu := hu_of hr
  refine ⟨_, pss_cons (ps_expr (pe_cal CAs hr (pa_cons (pe_cal CLin hr (pa_cons (pv 1) (pa_cons (pv 2) pa_nil))) (pa_cons (pv 3) pa_nil))))
    (pss_cons (ps_asg (pe_cal CTr hr (pa_cons (pv 0) (pa_cons (pv 1) (pa_cons (pv 2) (pa_cons (pv 3) (pa_cons pe_dnewK pa_nil)))))) (pg_tup rfl (pgs_cons (pg_name (i := 4) scHist.nd rfl (.inl rfl)) (pgs_cons (pg_name (i := 5) scHist.nd rfl (.inl rfl)) pgs_nil))))
    (pss_cons (ps_if (pt_tr (pv 5))
      (pss_one (ps_ret (pe_tupF (pa_cons pe_str (pa_cons (pe_cal CPap hr (pa_cons (pv 0) (pa_cons (pv 1) (pa_cons (pv 2) (pa_cons (pv 3) (pa_cons (pv 5) pa_nil)))))) pa_nil)))))
      pss_nil)
    (pss_one (ps_ret (pe_tupF (pa_cons pe_str (pa_cons (pv 4) pa_nil))))))), ?_⟩
  obtain ⟨a, sv, r, e, ps, svd, row, elders, rfl, ha, hp, irr, hsv, hrow, he, il, nd, ln, lne, q⟩ := h
  refine ⟨_, rfl, _, rfl, sv, r, svd, row, rfl, hsv, hrow, ln, fun t H1 s1 e1 => ?_⟩
  refine ⟨_, rfl, t, e, svd ++ row, elders, rfl, e1, nd, ?_, (fun H' s => he H' (s1.trans s)), il, fun H2 s2 => ?_⟩
  · rw [List.length_append]
    exact ln
  have s02 := s1.trans s2
  refine ⟨_, rfl, _, rfl, _, rfl, _, rfl, fun wd hwd => ?_⟩
  have s3 := same_upd (o := .dK []) hwd
  have s03 := s02.trans s3
  refine ⟨a, sv, r, e, wd, ps, svd, row, elders, none, rfl, ha.same s03, hp, irr, hsv.same s03, hrow.same s03, (fun H' s => he H' (s03.trans s)), upd_same, nd, ln, lne, fun T u l ds H4 s4 fu eT eu du mu el => ?_⟩
  have s04 := s03.trans s4
  refine ⟨T, _, rfl, .inl (.inl eT), rfl, _, _, rfl, _, _, rfl, rfl, ?_⟩
  have el' : TupAt H4 l ((leftL ps elders svd row).map V.str) := el
  refine ⟨.ref l, rfl, _, .inr (.inl ⟨_, el'.sq, rfl⟩), ite2 (fun c => ?_) (fun c => ?_)⟩
  · have ne : leftL ps elders svd row ≠ [] := fun z => by rw [z] at c; cases c
    have ls := left_sub (elders := elders) irr nd
    have ll := ls.length_le
    rw [List.length_append] at ll
    refine ⟨_, rfl, _, rfl, _, rfl, _, rfl, _, rfl, a, sv, r, e, l, ps, svd, row, elders, leftL ps elders svd row, rfl, ha.same s04, hp, hsv.same s04, hrow.same s04, (fun H' s => he H' (s04.trans s)), el', nd, ln, lne, by omega, (fun x hx => ⟨ls.subset hx, left_tell irr nd il.1 hx⟩), fun p rs H5 s5 n5 e5 r5 m5 => ?_⟩
    refine ⟨(by show 2 ≤ sizeLine; decide), fun T2 H6 s6 n6 e6 => ?_⟩
    exact q T2 H6 ((s04.trans s5).trans s6) (.inr ⟨ne, p, rs, e6, s6 _ _ e5, (fun x hx => (r5 x hx).same s6), m5⟩) fun w' u' z => by rw [← (told_inj e6 z).2]; exact s04.free n5
  · have e0 : leftL ps elders svd row = [] := by
      cases z : leftL ps elders svd row with
      | nil => rfl
      | cons x r => rw [z] at c; exact absurd rfl c
    refine ⟨_, rfl, (by show 2 ≤ sizeLine; decide), fun T2 H5 s5 n5 e5 => ?_⟩
    exact q T2 H5 (s04.trans s5) (.inl ⟨e0, u, ds, e5, s5 _ _ eu, du.same s5, mu⟩) fun w' u' z => by rw [← (told_inj e5 z).2]; exact s03.free fu
theorem cal_histN {f D E : Addr} {oc : Value} {od an ed : Option Addr} {osl es : Array (Option Value)} {doc pm cdv ct : Value} {en : Nat}
    (l : K.lookup f = some ⟨oc, od, .func (PySem.W.fnOf "history_of" "history_of" (defArgs sHist) (defBody sHist) (defScope sHist) .none (.ref D) doc pm an cdv ct), osl⟩) (c : PySem.W.codeIn K cdv "history_of" = true) (kp : PySem.W.keepIn K (.ref f) = true) (n : PySem.W.nsIn K D "elders" = some (some (.ref E)))
    (e : K.lookup E = some ⟨.type "tuple", ed, .seq #[] en, es⟩) (hm : mg "history_of" = some (.ref f)) (B : Blt mg) (CL : Cal P w K mg base 1 "line_of" ["served", "row"] spLineOf) (CA : Cal P w K mg base 2 "refuse_astray" ["line", "elders"] (spAstray K)) (CT : Cal P w K mg base 5 "traced_back" ["friends", "served", "row", "elders", "waits"] (spTracedF K)) (CP : Cal P w K mg base 3 "paper_of" ["friends", "served", "row", "elders", "left"] (spPaper K)) : CalK P w K mg base 6 "history_of" ["friends", "served", "row", "elders"] 3 "elders" (spHistN K) E :=
  calk_mk l c kp n e hm (ok_histN B CL CP CA CT (fun_mk l c kp)) rfl (fun _ _ _ _ _ _ us ws h1 h2 => match us, ws, h1, h2 with | [_, _, _], [_], _, _ => rfl)
    (fun _ _ _ _ _ _ us ks h1 h2 => match us, ks, h1, h2 with | [_, _, _], [_], _, _ => ⟨_, _, _, _, _, _, rfl, rfl, rfl⟩)

/-! ### first_astray, told -/
theorem ok_firstAX {f : Addr} {fd : FuncData} (B : Blt mg) (F : Fun K "first_astray" "first_astray" sFirstA f fd) : FnOk P w K mg base CX0 1 f fd ["line", "elders"] spFirstAX2 := by
  refine fok F scFirstA (fun vs H Q E h => ?_) (fun cdv A outer s H vs Q E hr h => ?_)
  · obtain ⟨t, e, line, elders, rfl, _⟩ := h
    rfl
  obtain ⟨t, e, line, elders, rfl, ht, nd, ln, he, q⟩ := h
  have hu := hu_of hr
  refine ⟨_, pss_cons (ps_setDc (i := 2) (own := [("place", 5), ("who", 4)]) (g := gTup K 2 (gCons (gName 5) (gCons (gName 4) gNil))) (tt := tYes) (tk := tVar 4) (tv := tVar 5) rfl scFirstA.nd rfl rfl (by rfl) (pi_enumT (by rfl) B.enumerate (pa_cons (pv 0) pa_nil)) (blkOk_by (N := nFirstA) (sc := defScope sFirstA) (by decide +kernel))
        (fun _ _ _ _ _ => pg_tup rfl (pgs_cons (pg_name (i := 5) scFirstA.nd rfl (Or.inl rfl)) (pgs_cons (pg_name (i := 4) scFirstA.nd rfl (Or.inl rfl)) pgs_nil))) (fun _ _ _ _ _ => pts_nil) (fun _ _ _ _ _ => pv 4) (fun _ _ _ _ _ => pv 5))
    (pss_cons (ps_set (i := 3) scFirstA.nd rfl (.inl rfl) (pe_un un_neg pe_int))
    (pss_cons (ps_for PassesOwn.never rfl (pi_row (pv 1)) (pg_name (i := 4) scFirstA.nd rfl (.inl rfl))
      (pss_cons (ps_if (PW.pt (pw_or (pt_cmp (pc_dnotin hu (pv 4) (pv 2))) (pw_or1 (pt_cmpR op_lt (pe_dget hu (pv 2) (pv 4) (fun _ _ => rfl)) (pv 3) (nomark _))))) (pss_one (ps_ret (pv 4))) pss_nil)
      (pss_one (ps_set (i := 3) scFirstA.nd rfl (.inl rfl) (pe_dget hu (pv 2) (pv 4) (fun _ _ => rfl))))))
    (pss_one (ps_ret pe_non)))), ?_⟩
  refine ⟨.ref t, rfl, t, _, rfl, ht.sq, fun D hD => ?_⟩
  refine dc_it (walk_enumT (xs := line.map V.str)) (fun i H' => ∃ kvs, Same H H' ∧ H' D = some (.dK kvs) ∧ CameJ line i kvs) ?_ ?_ ?_ ?_
  · exact ⟨[], same_upd hD, upd_same, ⟨Nat.le_refl _, fun x hx => nomatch hx⟩, fun _ _ => rfl⟩
  · rintro i H' _ ⟨kvs, s2, _⟩
    exact (ht.same s2).sq
  · rintro i v H2 H3 hi ⟨kvs, s2, d2, c2⟩ ⟨T, x1, x2, rfl, nT, rfl, e1, e2⟩
    cases e1
    obtain ⟨z, hz, rfl⟩ := at_map e2
    rw [List.length_map] at hi
    have sT := same_upd (o := .tup [.int (i : Nat), .str z]) nT
    refine ⟨T, _, rfl, .inl (.inl upd_same), rfl, _, _, rfl, _, _, rfl, rfl, rfl, ?_⟩
    refine ⟨_, rfl, _, rfl, kvs, .inr z, rfl, sT _ _ d2, small1000 (by have := c2.1.1; omega), _, fun b o' e => ?_, upd_same, came_stepJ nd hz c2⟩
    rw [upd_ne (ne_of_none e hD)]
    exact sT _ _ (s2 _ _ e)
  rintro H2 ⟨kvs, s2, d2, c2⟩
  rw [List.length_map] at c2
  have came : ∀ y ∈ line, valV kvs (.inr y) = some (.int (line.idxOf y : Nat)) := fun y hy => c2.1.2 y (by rw [List.take_of_length_le (Nat.le_refl _)]; exact hy)
  have noca : ∀ y, y ∉ line → valV kvs (.inr y) = none := fun y hy => c2.2 y (by rw [List.take_of_length_le (Nat.le_refl _)]; exact hy)
  refine ⟨1, rfl, ?_⟩
  have he2 := he.same s2
  have ee : ∀ H', Same H2 H' → H' e = H2 e := fun H' s' => he2.elim (fun z => by obtain ⟨o, _, z2⟩ := z; rw [z2]; exact s' _ _ z2) fun z => by rw [z]; exact s' _ _ z
  refine ⟨_, rfl, e, elders, rfl, he2, fun J G wk hG => ?_⟩
  refine for_it wk (fun i σ H1 => ∃ (h : Int) (n : Nat) (y4 y5 : Option V), σ = [some (.ref t), some (.ref e), some (.ref D), some (.int h), y4, y5] ∧ Same H2 H1 ∧ (∀ m : Nat, (m : Int) < h ↔ m < n) ∧ fstA line 0 elders = fstA line n (elders.drop i)) ?_ ?_ ?_ ?_
  · exact ⟨-1, 0, _, _, rfl, Same.refl _, fun m => by omega, by rw [List.drop_zero]⟩
  · rintro i σ H1 _ ⟨h, n, y4, y5, _, s3, _⟩
    exact hG _ (ee _ s3)
  · rintro i v σ H3 H1 hi ⟨h, n, y4, y5, rfl, s3, h3, f3⟩ ⟨rfl, ex⟩
    obtain ⟨x, hx, rfl⟩ := at_map ex
    have d3 := s3 _ _ d2
    have g1 := DGet.k (k := .inr x) d3
    rw [drop_cons hx] at f3
    by_cases hm : x ∈ line
    · rw [came x hm] at g1
      refine ⟨.str x, rfl, .ref D, rfl, D, _, rfl, g1, _, rfl, ?_⟩
      refine ⟨.ref D, rfl, .str x, rfl, D, _, rfl, g1, .int h, rfl, _, _, rfl, rfl, _, rfl, ite2 (fun c => ?_) (fun c => ?_)⟩
      · have lt := (h3 _).mp (of_decide_eq_true c)
        rw [fstA_stop (by omega)] at f3
        refine ⟨_, rfl, ?_⟩
        have := q H1 (s2.trans s3)
        rw [f3] at this
        exact this
      · have ge : n ≤ line.idxOf x := Nat.le_of_not_lt fun z => c (decide_eq_true ((h3 _).mpr z))
        rw [fstA_go ⟨hm, ge⟩] at f3
        exact ⟨.ref D, rfl, .str x, rfl, D, _, rfl, g1, _, line.idxOf x, _, _, rfl, s3, fun m => by omega, f3⟩
    · rw [noca x hm] at g1
      rw [fstA_stop (fun z => hm z.1)] at f3
      refine ⟨.str x, rfl, .ref D, rfl, D, _, rfl, g1, _, rfl, ?_⟩
      refine ⟨_, rfl, ?_⟩
      have := q H1 (s2.trans s3)
      rw [f3] at this
      exact this
  · rintro σ H1 ⟨h, n, y4, y5, rfl, s3, h3, f3⟩
    rw [List.length_map, List.drop_of_length_le (Nat.le_refl _), fstA_nil] at f3
    have := q H1 (s2.trans s3)
    rw [f3] at this
    exact this
/-! ### BadSight -/
abbrev sIBadSight : Stmt := clsFn (topS 2) 0
abbrev nIBadSight : List Str := ["self", "number"]
theorem scIBadSight : FnScope nIBadSight nIBadSight (defScope sIBadSight) := ⟨rfl, rfl, rfl, by decide +kernel, rfl, by decide +kernel, by decide +kernel⟩
theorem ok_iBadSight {C f : Addr} {fd : FuncData} (T : OwnK K mg "BadSight" "ValueError" "ValueError.__new__" "ValueError.__init__" "ValueError" C f) (hnumber : PySem.W.findIn K (.ref C) "number" = some none) (F : Fun K "__init__" "BadSight.__init__" sIBadSight f fd) : L2.FnOk P w K mg base L2.CX0 1 f fd nIBadSight (spInit1 C "number") := by
  refine F.ok scIBadSight (fun vs H Q E h => ?_) (fun cdv A outer s H vs Q E hr h => ?_)
  · obtain ⟨a, v, rfl, _⟩ := h
    rfl
  refine ⟨_, pss_cons (ps_expr (pe_baseinit base_VE (by rfl) T.nB PyProof.Rows.Boot.«ValueError» T.vB (pa_cons (pv 0) (pa_cons (pe_joined (.cons pe_str (.cons (pe_fmt (pv 1)) (.cons pe_str .nil)))) pa_nil))))
    (pss_one (ps_put base_VE (pv 0) (pv 1))), ?_⟩
  obtain ⟨a, v, rfl, ha, fo, q⟩ := h
  have e0 : (Str.empty).length ≤ 0 := Nat.le_refl _
  rcases fo with ⟨i, rfl, hi⟩ | ⟨z, rfl, hz⟩
  · have l1 := fit_k e0 (c := "sight ") (m := 6) (by decide +kernel)
    have l2 := fit_k l1 (c := (Str.ofString (toString i))) (int_len hi)
    have l3 := fit_k l2 (c := " can't be") (m := 9) (by decide +kernel)
    exact ⟨_, rfl, _, rfl, fit_line l1 (by decide), _, rfl, .inr ⟨i, rfl, (Nat.lt_trans hi (by decide)), _, rfl, fit_line l2 (by decide), _, rfl, fit_line l3 (by decide), a, C, _, rfl, (by show 1 ≤ 1000; decide), T.O, ha, _, rfl, _, rfl, a, C, rfl, T.O, hnumber, .inl ⟨ha, fun dx h1 h2 => q dx h1 h2⟩⟩⟩
  · have l1 := fit_k e0 (c := "sight ") (m := 6) (by decide +kernel)
    have l2 := fit_k l1 (c := z) hz
    have l3 := fit_k l2 (c := " can't be") (m := 9) (by decide +kernel)
    exact ⟨_, rfl, _, rfl, fit_line l1 (by decide), _, rfl, .inl ⟨z, rfl, (fit_line hz (by decide)), _, rfl, fit_line l2 (by decide), _, rfl, fit_line l3 (by decide), a, C, _, rfl, (by show 1 ≤ 1000; decide), T.O, ha, _, rfl, _, rfl, a, C, rfl, T.O, hnumber, .inl ⟨ha, fun dx h1 h2 => q dx h1 h2⟩⟩⟩
/-! ### sights_ahead -/
abbrev sAhead : Stmt := topS 27
abbrev nAhead : List Str := ["sights"]
abbrev pAhead : List Str := ["sights"]
theorem scAhead : FnScope nAhead pAhead (defScope sAhead) := ⟨rfl, rfl, rfl, by decide +kernel, rfl, by decide +kernel, by decide +kernel⟩
theorem ok_ahead {f : Addr} {fd : FuncData} (B : Blt mg)  (F : Fun K "sights_ahead" "sights_ahead" sAhead f fd) : FnOk P w K mg base CX0 1 f fd pAhead spAheadX := by
  refine fok F scAhead (fun vs H Q E h => ?_) (fun cdv A outer s H vs Q E hr h => ?_)
  · obtain ⟨p, qs, rfl, _⟩ := h
    rfl
  have hu := hu_of hr
  refine ⟨_, pss_one (ps_ret (pe_op op_cat (pe_lst (pa_cons (pe_tup (pa_cons pe_int (pa_cons (pe_tupF pa_nil) pa_nil))) pa_nil)) (pe_mid (pe_callTy call_list_of (by rfl) B.list (by decide +kernel) (pa_cons (pe_slice (sl_or2 sl_list sl_tup) (pv 0) po_none (po_some (pe_un un_neg pe_int))) pa_nil))))), ?_⟩
  obtain ⟨p, qs, rfl, hp, ne, ln, q⟩ := h
  refine ⟨(by show 0 ≤ sizeLine; decide), fun r H1 s1 n1 e1 => ?_⟩
  refine ⟨(by show 2 ≤ sizeLine; decide), fun T hT => ?_⟩
  have s2 := same_upd (o := .tup [.int 0, .ref r]) hT
  refine ⟨(by show 1 ≤ sizeLine; decide), fun L hL => ?_⟩
  have s3 := same_upd (o := .lst [V.ref T]) hL
  have s03 := (s1.trans s2).trans s3
  have hp3 := hp.same s03
  have eL : upd (upd H1 T (.tup [.int 0, .ref r])) L (.lst [V.ref T]) L = some (.lst [V.ref T]) := upd_same
  have eT := s3 _ _ (upd_same (H := H1) (a := T) (o := .tup [.int 0, .ref r]))
  have e1' := (e1.same s2).same s3
  have fr3 : ∀ {l : Addr}, upd (upd H1 T (.tup [.int 0, .ref r])) L (.lst [V.ref T]) l = none → H l = none := fun h => s03.free h
  generalize upd (upd H1 T (.tup [.int 0, .ref r])) L (.lst [V.ref T]) = H3 at s03 hp3 eL eT e1' fr3
  refine ⟨fun v H' => ∃ p2, v = .ref p2 ∧ Same H3 H' ∧ H' p2 = some (.lst (qs.dropLast.map fun q => V.ref q.1)), ?_, ?_⟩
  · have ec : cutV (refsS qs) none (some (-1)) = qs.dropLast.map fun q => V.ref q.1 := by
      unfold refsS
      rw [cutV_map, cutL_but]
    rcases hp3 with e | e
    · refine ⟨.ref p, rfl, 1, rfl, _, rfl, .inl ⟨p, _, rfl, .inl (.inl e), fun p1 hp1 => ?_⟩⟩
      have s4 := same_upd (o := .lst (cutV (refsS qs) none (some (-1)))) hp1
      refine ⟨p1, _, rfl, .inl (.inl (.inl upd_same)), fun p2 hp2 => ⟨p2, rfl, s4.trans (same_upd hp2), ?_⟩⟩
      rw [upd_same, ec]
    · refine ⟨.ref p, rfl, 1, rfl, _, rfl, .inr ⟨p, _, rfl, .inl (.inl e), fun z => ?_, fun p1 hp1 => ?_⟩⟩
      · have ln0 := List.length_pos_iff.mpr ne
        have z2 := z.2
        have lr : (refsS qs).length = qs.length := by unfold refsS; rw [List.length_map]
        rw [lr] at z2
        unfold HT.sIx at z2
        simp at z2
        omega
      have s4 := same_upd (o := .tup (cutV (refsS qs) none (some (-1)))) hp1
      refine ⟨p1, _, rfl, .inr (.inl (.inl upd_same)), fun p2 hp2 => ⟨p2, rfl, s4.trans (same_upd hp2), ?_⟩⟩
      rw [upd_same, ec]
  rintro v H' ⟨p2, rfl, s5, e5⟩
  refine ⟨L, p2, _, _, rfl, rfl, s5 _ _ eL, e5, ?_, fun l hl => ?_⟩
  · rw [List.length_map, List.length_dropLast]
    refine small_le ?_
    show 1 + _ ≤ 1000
    omega
  have s6 := same_upd (o := .lst ([V.ref T] ++ qs.dropLast.map fun q => V.ref q.1)) hl
  have s36 := s5.trans s6
  refine q l T r _ (s03.trans s36) (fr3 (s5.free hl)) ?_ ⟨s36 _ _ eT, e1'.same s36⟩
  rw [upd_same]
  rfl
/-! ### can_be_seen -/
abbrev sCanSeen : Stmt := topS 29
abbrev nCanSeen : List Str := ["served", "ahead", "sight", "before", "elders", "many", "row", "everybody"]
abbrev pCanSeen : List Str := ["served", "ahead", "sight"]
theorem scCanSeen : FnScope nCanSeen pCanSeen (defScope sCanSeen) := ⟨rfl, rfl, rfl, by decide +kernel, rfl, by decide +kernel, by decide +kernel⟩
-- slots: 0:served 1:ahead 2:sight 3:before 4:elders 5:many 6:row 7:everybody
theorem ok_canSeen {f : Addr} {fd : FuncData} (B : Blt mg) (CFa : Cal P w K mg base 1 "first_astray" ["line", "elders"] spFirstAX2) (CLin : Cal P w K mg base 1 "line_of" ["served", "row"] spLineOf) (F : Fun K "can_be_seen" "can_be_seen" sCanSeen f fd) : FnOk P w K mg base CX0 2 f fd pCanSeen spCanSeenX := by
  refine fok F scCanSeen (fun vs H Q E h => ?_) (fun cdv A outer s H vs Q E hr h => ?_)
  · obtain ⟨sv, gone, a, s, rfl, _⟩ := h
    rfl
  have hu := hu_of hr
  refine ⟨_, pss_cons (ps_mid (ps_asg (pv 1) (pg_orM (pg_tup rfl (pgs_cons (pg_name (i := 3) scCanSeen.nd rfl (.inl rfl)) (pgs_cons (pg_name (i := 4) scCanSeen.nd rfl (.inl rfl)) pgs_nil))) (pg_unl rfl (pgs_cons (pg_name (i := 3) scCanSeen.nd rfl (.inl rfl)) (pgs_cons (pg_name (i := 4) scCanSeen.nd rfl (.inl rfl)) pgs_nil))))))
    (pss_cons (ps_mid (ps_asg (pv 2) (pg_orM (pg_tup rfl (pgs_cons (pg_name (i := 5) scCanSeen.nd rfl (.inl rfl)) (pgs_cons (pg_name (i := 6) scCanSeen.nd rfl (.inl rfl)) pgs_nil))) (pg_unl rfl (pgs_cons (pg_name (i := 5) scCanSeen.nd rfl (.inl rfl)) (pgs_cons (pg_name (i := 6) scCanSeen.nd rfl (.inl rfl)) pgs_nil))))))
    (pss_cons (ps_if (pt_not (pt_chain op_le op_le (pv 3) (pv 5) (pe_callB call_len_seq (by rfl) B.len PySem.boot_len (pa_cons (pv 0) pa_nil))))
      (pss_one (ps_ret pe_bl))
      pss_nil)
    (pss_cons (ps_set (i := 7) scCanSeen.nd rfl (.inl rfl) (pe_cal CLin hr (pa_cons (pe_slice sl_row (pv 0) po_none (po_some (pv 5))) (pa_cons (pv 6) pa_nil))))
    (pss_one (ps_ret (pe_and (pe_cmpR op_eq (pe_lenStrsTD rfl (by rfl) B.len (by rfl) B.set (pv 7)) (pe_callB call_len_seq (by rfl) B.len PySem.boot_len (pa_cons (pv 7) pa_nil)) (nomark _)) (pe_one (pe_cmp (pc_isN (pe_cal CFa hr (pa_cons (pv 7) (pa_cons (pv 4) pa_nil)))) rfl)))))))), ?_⟩
  obtain ⟨sv, gone, ⟨a, an, ar, ae⟩, ⟨s, sn, sr, se⟩, rfl, hsv, ha, hs, ln, q⟩ := h
  refine ⟨fun σ' H' => σ' = [some (.ref sv), some (.ref a), some (.ref s), some (.int ((an : Nat) : Int)), some (.ref ar), none, none, none] ∧ H' = H, ?_, ?_⟩
  · rcases ha.1 with e | e
    · exact ⟨.ref a, rfl, .inl ⟨a, _, rfl, .inl (.inl e), rfl, _, _, rfl, _, _, rfl, rfl, rfl, rfl⟩⟩
    · exact ⟨.ref a, rfl, .inr ⟨a, _, rfl, .inl (.inl e), rfl, _, _, rfl, _, _, rfl, rfl, rfl, rfl⟩⟩
  rintro σ1 H1' ⟨rfl, rfl⟩
  refine ⟨fun σ' H' => σ' = [some (.ref sv), some (.ref a), some (.ref s), some (.int ((an : Nat) : Int)), some (.ref ar), some (.int ((sn : Nat) : Int)), some (.ref sr), none] ∧ H' = H1', ?_, ?_⟩
  · rcases hs.1 with e | e
    · exact ⟨.ref s, rfl, .inl ⟨s, _, rfl, .inl (.inl e), rfl, _, _, rfl, _, _, rfl, rfl, rfl, rfl⟩⟩
    · exact ⟨.ref s, rfl, .inr ⟨s, _, rfl, .inl (.inl e), rfl, _, _, rfl, _, _, rfl, rfl, rfl, rfl⟩⟩
  rintro σ2 H ⟨rfl, rfl⟩
  have out : ¬ (an ≤ sn ∧ sn ≤ gone.length) → Q (.bl false) H := fun c => by
    have e : canS gone (an, ae) (sn, se) = false := Bool.eq_false_iff.mpr fun z => c ⟨(canS_iff.mp z).1, (canS_iff.mp z).2.1⟩
    have := q H (Same.refl _)
    rw [show canS gone (sgOf (a, an, ar, ae)) (sgOf (s, sn, sr, se)) = false from e] at this
    exact this
  refine ⟨_, rfl, _, rfl, _, _, rfl, rfl, _, rfl, ite2 (fun c1 => ?_) (fun c1 => ?_)⟩
  rotate_left
  · exact ⟨_, rfl, iteT (out fun z => c1 (decide_eq_true (Int.ofNat_le.mpr z.1)))⟩
  have l1 : an ≤ sn := Int.ofNat_le.mp (of_decide_eq_true c1)
  refine ⟨.ref sv, rfl, sv, _, rfl, (hsv.elim (fun e => .inr e.sq) fun e => .inl (.inl (.inl e))), _, _, rfl, rfl, _, rfl, ?_⟩
  rw [List.length_map]
  refine ite2 (fun c2 => ?_) (fun c2 => ?_)
  · exact out fun z => by
      have e : decide ((sn : Int) ≤ (gone.length : Int)) = true := decide_eq_true (Int.ofNat_le.mpr z.2)
      have := (congrArg (fun b => !b) e).symm.trans c2
      cases this
  have l2 : sn ≤ gone.length := by
    refine Decidable.byContradiction fun z => c2 ?_
    exact congrArg (fun b => !b) (decide_eq_false (fun y => z (Int.ofNat_le.mp y)) : decide ((sn : Int) ≤ (gone.length : Int)) = false)
  have cut : cutL gone none (some ((sn : Nat) : Int)) = gone.take sn := cutL_to _ _
  refine ⟨.ref sv, rfl, _, rfl, _, rfl, sv, _, rfl, hsv, fun t1 H1 s1 e1 => ?_⟩
  rw [cut] at e1
  have lt : (gone.take sn).length = sn := by rw [List.length_take]; omega
  refine ⟨.ref sr, rfl, t1, sr, gone.take sn, se, rfl, e1, hs.2.same s1, ?_, fun t H2 s2 e2 => ?_⟩
  · rw [lt]
    have : gone.length + se.length ≤ 60 := ln
    omega
  generalize hl : gone.take sn ++ se = line at e2
  have ll : line.length ≤ 60 := by
    rw [← hl, List.length_append, lt]
    have : gone.length + se.length ≤ 60 := ln
    omega
  have s02 := s1.trans s2
  have e : canS gone (an, ae) (sn, se) = (decide line.Nodup && decide (fstA line 0 ae = none)) := by
    unfold canS
    rw [← hl, decide_eq_true l1, decide_eq_true l2, Bool.true_and, Bool.true_and]
  have q' : ∀ H', Same H H' → Q (.bl (decide line.Nodup && decide (fstA line 0 ae = none))) H' := fun H' s' => by
    rw [← e]
    exact q H' s'
  refine ⟨.ref t, rfl, t, line, rfl, e2, by omega, fun us nu su => ?_⟩
  refine ⟨.ref t, rfl, t, _, rfl, .inr e2.sq, rfl, _, rfl, ?_⟩
  rw [List.length_map]
  have eu : decide (V.int (us.length : Int) = V.int (line.length : Int)) = decide line.Nodup := by
    refine decide_eq_decide.mpr ⟨fun z => ?_, fun nd => congrArg V.int ?_⟩
    · exact nodup_of_len nu (fun y hy => (su y).mpr hy) (Nat.le_of_eq (Int.ofNat_inj.mp (V.int.inj z)).symm) (fun y hy => (su y).mp hy)
    · have h1 := nd_lenS us line nu fun y hy => (su y).mp hy
      have h2 := nd_lenS line us nd fun y hy => (su y).mpr hy
      omega
  rw [eu]
  by_cases nd : line.Nodup
  · have q2 : ∀ H', Same H H' → Q (.bl (decide (fstA line 0 ae = none))) H' := fun H' s' => by
      have := q' H' s'
      rw [decide_eq_true nd, Bool.true_and] at this
      exact this
    rw [decide_eq_true nd]
    refine iteT ⟨_, rfl, _, rfl, t, ar, line, ae, rfl, e2, nd, ll, (ha.2.same s1).same s2, fun H3 s3 => ?_⟩
    have := q2 H3 (s02.trans s3)
    cases ef : fstA line 0 ae with
    | none =>
      rw [ef] at this
      exact this
    | some x =>
      rw [ef] at this
      exact this
  · rw [decide_eq_false nd]
    have := q' H2 s02
    rw [decide_eq_false nd] at this
    exact this
/-! ### refuse_bad_sights -/
abbrev sRefBad : Stmt := topS 30
abbrev nRefBad : List Str := ["served", "sights", "number", "ahead", "sight"]
abbrev pRefBad : List Str := ["served", "sights"]
theorem scRefBad : FnScope nRefBad pRefBad (defScope sRefBad) := ⟨rfl, rfl, rfl, by decide +kernel, rfl, by decide +kernel, by decide +kernel⟩
-- slots: 0:served 1:sights 2:number 3:ahead 4:sight
theorem ok_refBad {C f fI : Addr} {fd fdI : FuncData} (B : Blt mg) (T : OwnK K mg "BadSight" "ValueError" "ValueError.__new__" "ValueError.__init__" "ValueError" C fI) (FI : L2.FnOk P w K mg base L2.CX0 1 fI fdI nIBadSight (spInit1 C "number")) (bI : Binds K fdI nIBadSight []) (CCse : Cal P w K mg base 2 "can_be_seen" ["served", "ahead", "sight"] spCanSeenX) (CAhe : Cal P w K mg base 1 "sights_ahead" ["sights"] spAheadX) (F : Fun K "refuse_bad_sights" "refuse_bad_sights" sRefBad f fd) : FnOk P w K mg base (L2.CX P w) 3 f fd pRefBad (spRefBadX C) := by
  refine fokX F scRefBad (fun vs H Q E h => ?_) (fun cdv A outer s H vs Q E hr h => ?_)
  · obtain ⟨sv, p, gone, qs, rfl, _⟩ := h
    rfl
  have hu := hu_of hr
  refine ⟨_, pss_one (ps_for (passes_of rfl) rfl (pi_enumX (by rfl) B.enumerate (by rfl) B.zip (pa_cons (pe_cal CAhe hr (pa_cons (pv 1) pa_nil)) (pa_cons (pv 1) pa_nil))) (pg_tup rfl (pgs_cons (pg_name (i := 2) scRefBad.nd rfl (.inl rfl)) (pgs_cons (pg_tup rfl (pgs_cons (pg_name (i := 3) scRefBad.nd rfl (.inl rfl)) (pgs_cons (pg_name (i := 4) scRefBad.nd rfl (.inl rfl)) pgs_nil))) pgs_nil)))
      (pss_one (ps_if (pt_not (pt_val (pe_cal CCse hr (pa_cons (pv 0) (pa_cons (pv 3) (pa_cons (pv 4) pa_nil))))))
          (pss_one (ps_raise rfl (takes_of rfl rfl rfl rfl) (pmk_made base_VE T.O T.iC T.tI FI (hr.rm.mono (by decide)) bI pass0 rfl (by rfl) T.g (pa_cons (pv 2) pa_nil))))
          pss_nil))), ?_⟩
  obtain ⟨sv, p, gone, qs, rfl, hsv, hp, hs, ne, ln, fe, qn, qk⟩ := h
  refine ⟨_, rfl, p, qs, rfl, hp, ne, ln, fun l T0 r H1 s1 nl hl hT0 => ?_⟩
  obtain ⟨bb, tw⟩ := hp.two (K := K)
  refine ⟨.ref p, rfl, bb, l, p, _, _, rfl, .inl (.inl hl), tw _ (s1 _), ?_⟩
  have hn : qs.length = min (refsS ((T0, 0, r, []) :: qs.dropLast)).length (refsS qs).length := by
    unfold refsS
    rw [List.length_map, List.length_map, List.length_cons, List.length_dropLast]
    have := List.length_pos_iff.mpr ne
    omega
  have hsv1 := hsv.same s1
  have hs1 : ∀ q ∈ qs, SightX H1 q := fun q hq => (hs q hq).same s1
  have fewA : ∀ i q, ((T0, 0, r, []) :: qs.dropLast)[i]? = some q → SightX H1 q := fun i q h => by
    rcases List.mem_cons.mp (List.mem_of_getElem? h) with z | z
    · rw [z]; exact hT0.x
    · exact hs1 q ((List.dropLast_sublist qs).subset z)
  refine for_it (walk_enumX hn) (fun i σ H' => ∃ (y2 y3 y4 : Option V) (a0 : Sg), σ = [some (.ref sv), some (.ref p), y2, y3, y4] ∧ Same H1 H' ∧ ((0, []) :: qs.map sgOf)[i]? = some a0 ∧ badS gone (0, []) 0 (qs.map sgOf) = badS gone a0 i ((qs.map sgOf).drop i)) ?_ ?_ ?_ ?_
  · exact ⟨_, _, _, (0, []), rfl, Same.refl _, rfl, rfl⟩
  · rintro i σ H' _ ⟨y2, y3, y4, a0, _, s2, _⟩
    exact ⟨.inl (.inl (s2 _ _ hl)), tw _ ((s1.trans s2) _)⟩
  · rintro i v σ H2 H3 hi ⟨y2, y3, y4, a0, rfl, s2, e0, eb⟩ ⟨T, U, x, y, rfl, nU, nT, nTU, rfl, ex, ey⟩
    obtain ⟨a, ha, rfl⟩ := at_map ex
    obtain ⟨t, ht, rfl⟩ := at_map ey
    have sU := same_upd (o := .tup [.ref a.1, .ref t.1]) nU
    have nT2 : upd H2 U (.tup [.ref a.1, .ref t.1]) T = none := by rw [upd_ne nTU]; exact nT
    have sT := same_upd (o := .tup [.int (i : Nat), .ref U]) nT2
    have s13 := (s2.trans sU).trans sT
    refine ⟨T, _, rfl, .inl (.inl upd_same), rfl, _, _, rfl, _, _, rfl, U, _, rfl, .inl (.inl (sT _ _ upd_same)), rfl, _, _, rfl, _, _, rfl, rfl, rfl, ?_⟩
    have sa := (fewA i a ha).same s13
    have st := (hs1 t (List.mem_of_getElem? ht)).same s13
    have hti : (qs.map sgOf)[i]? = some (sgOf t) := by rw [List.getElem?_map, ht]; rfl
    have ea : sgOf a = a0 := by
      have h1 : (ahdS (qs.map sgOf))[i]? = some a0 := (ahdS_at hti).trans e0
      have h2 : ahdS (qs.map sgOf) = ((T0, 0, r, []) :: qs.dropLast).map sgOf := by
        unfold ahdS
        rw [List.map_cons, List.map_dropLast]
        rfl
      rw [h2, List.getElem?_map, ha] at h1
      exact Option.some.inj h1
    rw [show (qs.map sgOf).drop i = sgOf t :: (qs.map sgOf).drop (i + 1) from drop_cons hti] at eb
    refine ⟨_, rfl, _, rfl, _, rfl, sv, gone, a, t, rfl, hsv1.same s13, sa, st, fe t (List.mem_of_getElem? ht), fun H4 s4 => ?_⟩
    rw [ea]
    have s14 := s13.trans s4
    have eb' : badS gone a0 i (sgOf t :: (qs.map sgOf).drop (i + 1)) = if canS gone a0 (sgOf t) = true then badS gone (sgOf t) (i + 1) ((qs.map sgOf).drop (i + 1)) else some i := rfl
    rw [eb'] at eb
    refine ⟨_, rfl, ite2 (fun c => ?_) (fun c => ?_)⟩
    · have c' : canS gone a0 (sgOf t) = false := by
        cases z : canS gone a0 (sgOf t) with
        | false => rfl
        | true => rw [z] at c; cases c
      rw [c', if_neg (by decide)] at eb
      have qe := qk i eb
      refine ⟨_, rfl, (by show 1 ≤ 1000; decide), fun y hy => ⟨y, _, rfl, upd_same, .inl ⟨(i : Int), rfl, (by rw [Int.natAbs_natCast]; exact Nat.lt_of_le_of_lt (Nat.log2_le_self i) (by omega))⟩, fun dx h1 h2 => ⟨rfl, .inr ⟨dx, [("number", .int (i : Nat))], upd_same, (upd_ne h2).trans upd_same, ?_, ?_⟩⟩⟩⟩
      · rw [upd_ne h2] at h1
        exact h1
      · rw [upd_ne h2] at h1
        have s04 := s1.trans s14
        refine qe dx _ (fun b o' z => ?_) (s04.free h1) upd_same
        have nb1 : b ≠ dx := ne_of_none z (s04.free h1)
        have nb2 : b ≠ y := ne_of_none z (s04.free hy)
        rw [upd_ne nb1, del_ne nb2, upd_ne nb2, upd_ne nb1, upd_ne nb2]
        exact s04 _ _ z
    · have c' : canS gone a0 (sgOf t) = true := by
        cases z : canS gone a0 (sgOf t) with
        | true => rfl
        | false => rw [z] at c; exact absurd rfl c
      rw [c', if_pos rfl] at eb
      exact ⟨_, _, _, sgOf t, rfl, s14, hti, eb⟩
  · rintro σ H' ⟨y2, y3, y4, a0, rfl, s2, e0, eb⟩
    refine qn ?_ H' (s1.trans s2)
    rw [eb, List.drop_of_length_le (by rw [List.length_map]; exact Nat.le_refl _)]
    rfl
/-! ### stretches -/
abbrev sStretch : Stmt := topS 28
abbrev nStretch : List Str := ["served", "sights", "told", "before", "elders", "many", "row"]
abbrev pStretch : List Str := ["served", "sights"]
theorem scStretch : FnScope nStretch pStretch (defScope sStretch) := ⟨rfl, rfl, rfl, by decide +kernel, rfl, by decide +kernel, by decide +kernel⟩
-- slots: 0:served 1:sights 2:told 3:before 4:elders 5:many 6:row
theorem ok_stretch {f : Addr} {fd : FuncData} (B : Blt mg) (CAhe : Cal P w K mg base 1 "sights_ahead" ["sights"] spAheadX) (F : Fun K "stretches" "stretches" sStretch f fd) : FnOk P w K mg base CX0 2 f fd pStretch spStretchX := by
  refine fok F scStretch (fun vs H Q E h => ?_) (fun cdv A outer s H vs Q E hr h => ?_)
  · obtain ⟨sv, p, gone, qs, rfl, _⟩ := h
    rfl
  have hu := hu_of hr
  refine ⟨_, pss_cons (ps_set (i := 2) scStretch.nd rfl (.inl rfl) (pe_lst pa_nil))
    (pss_cons (ps_for PassesOwn.never rfl (pi_zipX (by rfl) B.zip (pa_cons (pe_cal CAhe hr (pa_cons (pv 1) pa_nil)) (pa_cons (pv 1) pa_nil))) (pg_tup rfl (pgs_cons (pg_mid (pg_orM (pg_tup rfl (pgs_cons (pg_name (i := 3) scStretch.nd rfl (.inl rfl)) (pgs_cons (pg_name (i := 4) scStretch.nd rfl (.inl rfl)) pgs_nil))) (pg_unl rfl (pgs_cons (pg_name (i := 3) scStretch.nd rfl (.inl rfl)) (pgs_cons (pg_name (i := 4) scStretch.nd rfl (.inl rfl)) pgs_nil))))) (pgs_cons (pg_mid (pg_orM (pg_tup rfl (pgs_cons (pg_name (i := 5) scStretch.nd rfl (.inl rfl)) (pgs_cons (pg_name (i := 6) scStretch.nd rfl (.inl rfl)) pgs_nil))) (pg_unl rfl (pgs_cons (pg_name (i := 5) scStretch.nd rfl (.inl rfl)) (pgs_cons (pg_name (i := 6) scStretch.nd rfl (.inl rfl)) pgs_nil))))) pgs_nil)))
      (pss_one (ps_expr (pe_bm PySem.F.plainAttrs_list PySem.F.slot_list_append PySem.F.type_list_append mt_append (pv 2) (pa_cons (pe_tupF (pa_cons (pe_mid (pe_slice (sl_or2 sl_tupM sl_list) (pv 0) (po_some (pv 3)) (po_some (pv 5)))) (pa_cons (pv 6) (pa_cons (pv 4) pa_nil)))) pa_nil)))))
    (pss_one (ps_ret (pv 2)))), ?_⟩
  obtain ⟨sv, p, gone, qs, rfl, hsv, hp, hs, ne, ln, can, q⟩ := h
  refine ⟨(by show 0 ≤ sizeLine; decide), fun D hD => ?_⟩
  have s0 := same_upd (o := .lst []) hD
  refine ⟨_, rfl, p, qs, rfl, hp.same s0, ne, ln, fun l T0 r H1 s1 nl hl hT0 => ?_⟩
  have s01 := s0.trans s1
  obtain ⟨bb, tw⟩ := hp.two (K := K)
  refine ⟨.ref p, rfl, bb, l, p, _, _, rfl, .inl (.inl hl), tw _ (s01 _), ?_⟩
  have hn : qs.length = min (refsS ((T0, 0, r, []) :: qs.dropLast)).length (refsS qs).length := by
    unfold refsS
    rw [List.length_map, List.length_map, List.length_cons, List.length_dropLast]
    have := List.length_pos_iff.mpr ne
    omega
  have hsv1 := hsv.same s01
  have hs1 : ∀ q ∈ qs, SightX H1 q := fun q hq => (hs q hq).same s01
  have ahe : ahdS (qs.map sgOf) = ((T0, 0, r, []) :: qs.dropLast).map sgOf := by
    unfold ahdS
    rw [List.map_cons, List.map_dropLast]
    rfl
  have nlD : l ≠ D := fun z => by
    rw [z] at nl
    cases (upd_same (H := H) (a := D) (o := .lst [])).symm.trans nl
  have npD : p ≠ D := hp.ne hD
  have dD : H1 D = some (.lst []) := s1 _ _ upd_same
  refine for_it (walk_zipX hn) (fun i σ H' => ∃ (y3 y4 y5 y6 : Option V) (ts : List LT), σ = [some (.ref sv), some (.ref p), some (.ref D), y3, y4, y5, y6] ∧ Oth D H1 H' ∧ H' D = some (.lst (refsP ts)) ∧ (∀ q ∈ ts, StretchX H' q ∧ (q.2.1 ≠ D ∧ q.2.2.1 ≠ D ∧ q.2.2.2.1 ≠ D) ∧ Apart H qs q) ∧ ts.length = i ∧ ts.map (fun q => q.2.2.2.2) = (partsS gone (qs.map sgOf)).take i) ?_ ?_ ?_ ?_
  · exact ⟨_, _, _, _, [], rfl, Oth.refl _ _, dD, (fun _ h => nomatch h), rfl, rfl⟩
  · rintro i σ H' _ ⟨y3, y4, y5, y6, ts, _, o2, _⟩
    exact ⟨.inl (.inl (o2 _ _ nlD hl)), tw _ fun o e => o2 _ _ npD (s01 _ _ e)⟩
  · rintro i v σ H2 H3 hi ⟨y3, y4, y5, y6, ts, rfl, o2, d2, k2, l2, m2⟩ ⟨T, x, y, rfl, nT, rfl, ex, ey⟩
    obtain ⟨a, ha, rfl⟩ := at_map ex
    obtain ⟨t, ht, rfl⟩ := at_map ey
    have sT := same_upd (o := .tup [.ref a.1, .ref t.1]) nT
    have o3 : Oth D H1 (upd H2 T (.tup [.ref a.1, .ref t.1])) := o2.trans (Oth.of sT)
    have old : Same H (upd H2 T (.tup [.ref a.1, .ref t.1])) := fun x o e => o3 _ _ (ne_of_none e hD) (s01 _ _ e)
    have sa : SightX (upd H2 T (.tup [.ref a.1, .ref t.1])) a := by
      have key : ∀ q : LS, q = (T0, 0, r, []) ∨ q ∈ qs.dropLast → SightX (upd H2 T (.tup [.ref a.1, .ref t.1])) q := by
        rintro q (rfl | z)
        · refine SightAt.x ⟨o3 _ _ (ne_of hT0.1 dD fun e => nomatch e) hT0.1, ?_⟩
          obtain ⟨o, z1, z2⟩ := hT0.2
          exact ⟨o, z1, o3 _ _ (ne_of z2 dD fun e => nomatch e) z2⟩
        · exact (hs q ((List.dropLast_sublist qs).subset z)).same old
      exact key a (List.mem_cons.mp (List.mem_of_getElem? ha))
    have st := (hs t (List.mem_of_getElem? ht)).same old
    have sv3 := hsv.same old
    have hti : (qs.map sgOf)[i]? = some (sgOf t) := by rw [List.getElem?_map, ht]; rfl
    have hai : (ahdS (qs.map sgOf))[i]? = some (sgOf a) := by rw [ahe, List.getElem?_map, ha]; rfl
    obtain ⟨le, lg⟩ := can i (sgOf a) (sgOf t) hai hti
    refine ⟨T, _, rfl, .inl (.inl upd_same), rfl, _, _, rfl, fun σ' H' => σ' = [some (.ref sv), some (.ref p), some (.ref D), some (.int ((a.2.1 : Nat) : Int)), some (.ref a.2.2.1), y5, y6] ∧ H' = upd H2 T (.tup [.ref a.1, .ref t.1]), ?_, ?_⟩
    · rcases sa.1 with e | e
      · exact .inl ⟨a.1, _, rfl, .inl (.inl e), rfl, _, _, rfl, _, _, rfl, rfl, rfl, rfl⟩
      · exact .inr ⟨a.1, _, rfl, .inl (.inl e), rfl, _, _, rfl, _, _, rfl, rfl, rfl, rfl⟩
    rintro σ1 H31 ⟨rfl, rfl⟩
    refine ⟨_, _, rfl, fun σ' H' => σ' = [some (.ref sv), some (.ref p), some (.ref D), some (.int ((a.2.1 : Nat) : Int)), some (.ref a.2.2.1), some (.int ((t.2.1 : Nat) : Int)), some (.ref t.2.2.1)] ∧ H' = upd H2 T (.tup [.ref a.1, .ref t.1]), ?_, ?_⟩
    · rcases st.1 with e | e
      · exact .inl ⟨t.1, _, rfl, .inl (.inl e), rfl, _, _, rfl, _, _, rfl, rfl, rfl, rfl⟩
      · exact .inr ⟨t.1, _, rfl, .inl (.inl e), rfl, _, _, rfl, _, _, rfl, rfl, rfl, rfl⟩
    rintro σ2 H32 ⟨rfl, rfl⟩
    refine ⟨rfl, ?_⟩
    have cut : cutL gone (some ((a.2.1 : Nat) : Int)) (some ((t.2.1 : Nat) : Int)) = (gone.take t.2.1).drop a.2.1 := cutL_mid _ _ _ lg
    have nsv : sv ≠ D := hsv.elim (fun e => e.ne_new hD) fun e => ne_of_none e hD
    refine ⟨.ref D, rfl, .inl ⟨rfl, _, .inl (.inl (sT _ _ d2))⟩, fun v H' => ∃ b, v = .ref b ∧ Same (upd H2 T (.tup [.ref a.1, .ref t.1])) H' ∧ RowAt H' b ((gone.take t.2.1).drop a.2.1) ∧ b ≠ D ∧ ∀ D', H D' = some (.lst []) → b ≠ D', ?_, ?_⟩
    · rcases sv3 with e | e
      · refine ⟨.ref sv, rfl, _, rfl, _, rfl, _, rfl, _, rfl, .inl ⟨sv, _, rfl, e, fun b H4 s4 e4 => ⟨b, rfl, s4, ?_, ?_, fun D' h' => ?_⟩⟩⟩
        · rw [cutV_map, cut] at e4
          exact .inl e4
        · rintro rfl
          obtain ⟨o, z1, z2⟩ := e4
          have := s4 _ _ (sT _ _ d2)
          rw [z2] at this
          cases this
        · rintro rfl
          obtain ⟨o, z1, z2⟩ := e4
          have := s4 _ _ (old _ _ h')
          rw [z2] at this
          cases this
      · refine ⟨.ref sv, rfl, _, rfl, _, rfl, _, rfl, _, rfl, .inr ⟨sv, _, rfl, .inl (.inl e), fun b hb => ⟨b, rfl, same_upd hb, ?_, ?_, fun D' h' => ?_⟩⟩⟩
        · rw [cutV_map, cut]
          exact .inr upd_same
        · rintro rfl
          rw [sT _ _ d2] at hb
          cases hb
        · rintro rfl
          rw [old _ _ h'] at hb
          cases hb
    rintro v H4 ⟨b, rfl, s4, e4, nbD, nbO⟩
    refine ⟨_, rfl, _, rfl, (by show 3 ≤ sizeLine; decide), fun T2 H5 s5 n5 e5 => ?_⟩
    have s25 := (sT.trans s4).trans s5
    have d5 := s25 _ _ d2
    refine ⟨D, refsP ts, _, rfl, rfl, d5, small9 (by unfold refsP; rw [List.length_map]; omega), ?_⟩
    have o6 : Oth D H5 (upd H5 D (.lst (refsP ts ++ [.ref T2]))) := Oth.upd
    have row6 : ∀ {x : Addr} {r : List Str}, RowAt H5 x r → x ≠ D → RowAt (upd H5 D (.lst (refsP ts ++ [.ref T2]))) x r := fun {x r} z n => z.elim (fun e => .inl (e.upd_ d5)) fun e => .inr ((upd_ne n).trans e)
    have k6 : ∀ {q : LT}, StretchX H5 q → q.2.1 ≠ D → q.2.2.1 ≠ D → q.2.2.2.1 ≠ D → StretchX (upd H5 D (.lst (refsP ts ++ [.ref T2]))) q := fun {q} z n1 n2 n3 => ⟨z.1.upd_ d5, row6 z.2.1 n1, row6 z.2.2.1 n2, row6 z.2.2.2 n3⟩
    have ntD : t.2.2.1 ≠ D := (hs t (List.mem_of_getElem? ht)).2.elim (fun e => e.ne_new hD) fun e => ne_of_none e hD
    have naD : a.2.2.1 ≠ D := by
      have key : ∀ q : LS, q = (T0, 0, r, []) ∨ q ∈ qs.dropLast → q.2.2.1 ≠ D := by
        rintro q (rfl | z)
        · intro e
          obtain ⟨o, z1, z2⟩ := hT0.2
          have e' : r = D := e
          rw [show ((T0, 0, r, []) : LS).2.2.1 = D from e, dD] at z2
          cases z2
        · exact (hs q ((List.dropLast_sublist qs).subset z)).2.elim (fun e => e.ne_new hD) fun e => ne_of_none e hD
      exact key a (List.mem_cons.mp (List.mem_of_getElem? ha))
    have naO : ∀ D', H D' = some (.lst []) → (∀ s ∈ qs, s.2.2.1 ≠ D') → a.2.2.1 ≠ D' := fun D' h' hq' => by
      have key : ∀ q : LS, q = (T0, 0, r, []) ∨ q ∈ qs.dropLast → q.2.2.1 ≠ D' := by
        rintro q (rfl | z)
        · intro e
          obtain ⟨o, z1, z2⟩ := hT0.2
          rw [show ((T0, 0, r, []) : LS).2.2.1 = D' from e, s01 _ _ h'] at z2
          cases z2
        · exact hq' q ((List.dropLast_sublist qs).subset z)
      exact key a (List.mem_cons.mp (List.mem_of_getElem? ha))
    refine ⟨_, _, _, _, ts ++ [(T2, b, t.2.2.1, a.2.2.1, partOf gone (sgOf a) (sgOf t))], rfl, (o3.trans (Oth.of (s4.trans s5))).trans o6, ?_, ?_, ?_, ?_⟩
    · rw [upd_same]
      unfold refsP
      rw [List.map_append]
      rfl
    · intro q hq
      rcases List.mem_append.mp hq with z | z
      · obtain ⟨z1, ⟨z2, z3, z4⟩, z5⟩ := k2 q z
        exact ⟨k6 (z1.same s25) z2 z3 z4, ⟨z2, z3, z4⟩, z5⟩
      · rw [List.mem_singleton.mp z]
        exact ⟨k6 ⟨e5, e4.same s5, (st.2.same s4).same s5, (sa.2.same s4).same s5⟩ nbD ntD naD, ⟨nbD, ntD, naD⟩, fun D' h' hq' => ⟨nbO D' h', hq' t (List.mem_of_getElem? ht), naO D' h' hq'⟩⟩
    · rw [List.length_append, l2]
      rfl
    · rw [List.map_append, m2, List.take_succ, partsS_at hai hti]
      rfl
  · rintro σ H' ⟨y3, y4, y5, y6, ts, rfl, o2, d2, k2, l2, m2⟩
    refine ⟨_, rfl, q D ts H' (fun b o' z => ?_) hD d2 (fun q hq => ⟨(k2 q hq).1, (k2 q hq).2.2⟩) ?_⟩
    · exact o2 _ _ (ne_of_none z hD) (s01 _ _ z)
    · rw [m2, List.take_of_length_le]
      rw [partsS_len, List.length_map]
      exact Nat.le_refl _
/-! ### stretches of tuples -/
theorem ok_aheadO {f : Addr} {fd : FuncData} (B : Blt mg)  (F : Fun K "sights_ahead" "sights_ahead" sAhead f fd) : FnOk P w K mg base CX0 1 f fd pAhead spAhead := by
  refine fok F scAhead (fun vs H Q E h => ?_) (fun cdv A outer s H vs Q E hr h => ?_)
  · obtain ⟨p, qs, rfl, _⟩ := h
    rfl
  have hu := hu_of hr
  refine ⟨_, pss_one (ps_ret (pe_op op_cat (pe_lst (pa_cons (pe_tup (pa_cons pe_int (pa_cons (pe_tupF pa_nil) pa_nil))) pa_nil)) (pe_callTy call_list_of (by rfl) B.list (by decide +kernel) (pa_cons (pe_slice sl_list (pv 0) po_none (po_some (pe_un un_neg pe_int))) pa_nil)))), ?_⟩
  obtain ⟨p, qs, rfl, hp, hs, ln, q⟩ := h
  refine ⟨(by show 0 ≤ sizeLine; decide), fun r H1 s1 n1 e1 => ?_⟩
  refine ⟨(by show 2 ≤ sizeLine; decide), fun T hT => ?_⟩
  have s2 := same_upd (o := .tup [.int 0, .ref r]) hT
  refine ⟨(by show 1 ≤ sizeLine; decide), fun L hL => ?_⟩
  have s3 := same_upd (o := .lst [V.ref T]) hL
  have s03 := (s1.trans s2).trans s3
  refine ⟨.ref p, rfl, 1, rfl, _, rfl, p, _, rfl, .inl (.inl (s03 _ _ hp)), fun p1 hp1 => ?_⟩
  have s4 := same_upd (o := .lst (cutV (refsS qs) none (some (-1)))) hp1
  refine ⟨p1, _, rfl, .inl (.inl (.inl upd_same)), fun p2 hp2 => ?_⟩
  have s5 := same_upd (o := .lst (cutV (refsS qs) none (some (-1)))) hp2
  have s35 := s4.trans s5
  refine ⟨L, p2, _, _, rfl, rfl, s35 _ _ upd_same, upd_same, ?_, fun l hl => ?_⟩
  · unfold refsS
    rw [cutV_map, cutL_but, List.length_map, List.length_dropLast]
    refine small_le ?_
    show 1 + _ ≤ 1000
    omega
  have s6 := same_upd (o := .lst ([V.ref T] ++ cutV (refsS qs) none (some (-1)))) hl
  have s36 := s35.trans s6
  refine q l T r _ (s03.trans s36) ((s03.trans s35).free hl) ?_ ⟨s36 _ _ (s3 _ _ upd_same), ((e1.same s2).same s3).same s36⟩
  rw [upd_same]
  unfold refsS
  rw [cutV_map, cutL_but]
  rfl
theorem ok_stretchO {f : Addr} {fd : FuncData} (B : Blt mg) (CAhe : Cal P w K mg base 1 "sights_ahead" ["sights"] spAhead) (F : Fun K "stretches" "stretches" sStretch f fd) : FnOk P w K mg base CX0 2 f fd pStretch spStretch := by
  refine fok F scStretch (fun vs H Q E h => ?_) (fun cdv A outer s H vs Q E hr h => ?_)
  · obtain ⟨sv, p, gone, qs, rfl, _⟩ := h
    rfl
  have hu := hu_of hr
  refine ⟨_, pss_cons (ps_set (i := 2) scStretch.nd rfl (.inl rfl) (pe_lst pa_nil))
    (pss_cons (ps_for PassesOwn.never rfl (pi_zip (by rfl) B.zip (pa_cons (pe_cal CAhe hr (pa_cons (pv 1) pa_nil)) (pa_cons (pv 1) pa_nil))) (pg_tup rfl (pgs_cons (pg_tup rfl (pgs_cons (pg_name (i := 3) scStretch.nd rfl (.inl rfl)) (pgs_cons (pg_name (i := 4) scStretch.nd rfl (.inl rfl)) pgs_nil))) (pgs_cons (pg_tup rfl (pgs_cons (pg_name (i := 5) scStretch.nd rfl (.inl rfl)) (pgs_cons (pg_name (i := 6) scStretch.nd rfl (.inl rfl)) pgs_nil))) pgs_nil)))
      (pss_one (ps_expr (pe_bm PySem.F.plainAttrs_list PySem.F.slot_list_append PySem.F.type_list_append mt_append (pv 2) (pa_cons (pe_tupF (pa_cons (pe_slice sl_tupM (pv 0) (po_some (pv 3)) (po_some (pv 5))) (pa_cons (pv 6) (pa_cons (pv 4) pa_nil)))) pa_nil)))))
    (pss_one (ps_ret (pv 2)))), ?_⟩
  obtain ⟨sv, p, gone, qs, rfl, hsv, hp, hs, ne, ln, can, q⟩ := h
  refine ⟨(by show 0 ≤ sizeLine; decide), fun D hD => ?_⟩
  have s0 := same_upd (o := .lst []) hD
  refine ⟨_, rfl, p, qs, rfl, s0 _ _ hp, hs.same s0, ln, fun l T0 r H1 s1 nl hl hT0 => ?_⟩
  have s01 := s0.trans s1
  refine ⟨.ref p, rfl, l, p, _, _, rfl, .inl (.inl hl), .inl (.inl (s01 _ _ hp)), ?_⟩
  have hn : qs.length = min (refsS ((T0, 0, r, []) :: qs.dropLast)).length (refsS qs).length := by
    unfold refsS
    rw [List.length_map, List.length_map, List.length_cons, List.length_dropLast]
    have := List.length_pos_iff.mpr ne
    omega
  have hsv1 := hsv.same s01
  have hs1 := hs.same s01
  have fewA : ∀ i q, ((T0, 0, r, []) :: qs.dropLast)[i]? = some q → SightAt H1 q := fun i q h => by
    rcases List.mem_cons.mp (List.mem_of_getElem? h) with z | z
    · rw [z]; exact hT0
    · exact hs1 q ((List.dropLast_sublist qs).subset z)
  have ahe : ahdS (qs.map sgOf) = ((T0, 0, r, []) :: qs.dropLast).map sgOf := by
    unfold ahdS
    rw [List.map_cons, List.map_dropLast]
    rfl
  have nlD : l ≠ D := fun z => by
    rw [z] at nl
    cases (upd_same (H := H) (a := D) (o := .lst [])).symm.trans nl
  have npD : p ≠ D := ne_of_none hp hD
  have dD : H1 D = some (.lst []) := s1 _ _ upd_same
  refine for_it (walk_zipL hn) (fun i σ H' => ∃ (y3 y4 y5 y6 : Option V) (ts : List LT), σ = [some (.ref sv), some (.ref p), some (.ref D), y3, y4, y5, y6] ∧ Oth D H1 H' ∧ H' D = some (.lst (refsP ts)) ∧ (∀ q ∈ ts, StretchAt H' q) ∧ ts.length = i ∧ ts.map (fun q => q.2.2.2.2) = (partsS gone (qs.map sgOf)).take i) ?_ ?_ ?_ ?_
  · exact ⟨_, _, _, _, [], rfl, Oth.refl _ _, dD, (fun _ h => nomatch h), rfl, rfl⟩
  · rintro i σ H' _ ⟨y3, y4, y5, y6, ts, _, o2, _⟩
    exact ⟨.inl (.inl (o2 _ _ nlD hl)), .inl (.inl (o2 _ _ npD (s01 _ _ hp)))⟩
  · rintro i v σ H2 H3 hi ⟨y3, y4, y5, y6, ts, rfl, o2, d2, k2, l2, m2⟩ ⟨T, x, y, rfl, nT, rfl, ex, ey⟩
    obtain ⟨a, ha, rfl⟩ := at_map ex
    obtain ⟨t, ht, rfl⟩ := at_map ey
    have sT := same_upd (o := .tup [.ref a.1, .ref t.1]) nT
    have o3 : Oth D H1 (upd H2 T (.tup [.ref a.1, .ref t.1])) := o2.trans (Oth.of sT)
    have at3 : ∀ {q : LS}, SightAt H1 q → SightAt (upd H2 T (.tup [.ref a.1, .ref t.1])) q := fun {q} z => by
      refine ⟨o3 _ _ (ne_of z.1 dD fun e => nomatch e) z.1, ?_⟩
      obtain ⟨o, z1, z2⟩ := z.2
      exact ⟨o, z1, o3 _ _ (ne_of z2 dD fun e => nomatch e) z2⟩
    have sa := at3 (fewA i a ha)
    have st := at3 (hs1 t (List.mem_of_getElem? ht))
    have sv3 : TupAt (upd H2 T (.tup [.ref a.1, .ref t.1])) sv (gone.map V.str) := by
      obtain ⟨o, z1, z2⟩ := hsv1
      exact ⟨o, z1, o3 _ _ (ne_of z2 dD fun e => nomatch e) z2⟩
    have hti : (qs.map sgOf)[i]? = some (sgOf t) := by rw [List.getElem?_map, ht]; rfl
    have hai : (ahdS (qs.map sgOf))[i]? = some (sgOf a) := by rw [ahe, List.getElem?_map, ha]; rfl
    obtain ⟨le, lg⟩ := can i (sgOf a) (sgOf t) hai hti
    refine ⟨T, _, rfl, .inl (.inl upd_same), rfl, _, _, rfl, a.1, _, rfl, .inl (.inl sa.1), rfl, _, _, rfl, _, _, rfl, rfl, _, _, rfl, t.1, _, rfl, .inl (.inl st.1), rfl, _, _, rfl, _, _, rfl, rfl, rfl, ?_⟩
    refine ⟨.ref D, rfl, .inl ⟨rfl, _, .inl (.inl (sT _ _ d2))⟩, .ref sv, rfl, _, rfl, _, rfl, _, rfl, _, rfl, sv, _, rfl, sv3, fun b H4 s4 e4 => ?_⟩
    rw [cutV_map, show cutL gone (some ((a.2.1 : Nat) : Int)) (some ((t.2.1 : Nat) : Int)) = (gone.take t.2.1).drop a.2.1 from cutL_mid _ _ _ lg] at e4
    refine ⟨_, rfl, _, rfl, (by show 3 ≤ sizeLine; decide), fun T2 H5 s5 n5 e5 => ?_⟩
    have s25 := (sT.trans s4).trans s5
    have d5 := s25 _ _ d2
    refine ⟨D, refsP ts, _, rfl, rfl, d5, small9 (by unfold refsP; rw [List.length_map]; omega), ?_⟩
    have o6 : Oth D H5 (upd H5 D (.lst (refsP ts ++ [.ref T2]))) := Oth.upd
    have k6 : ∀ {q : LT}, StretchAt H5 q → StretchAt (upd H5 D (.lst (refsP ts ++ [.ref T2]))) q := fun {q} z => ⟨z.1.upd_ d5, z.2.1.upd_ d5, z.2.2.1.upd_ d5, z.2.2.2.upd_ d5⟩
    refine ⟨_, _, _, _, ts ++ [(T2, b, t.2.2.1, a.2.2.1, partOf gone (sgOf a) (sgOf t))], rfl, (o3.trans (Oth.of (s4.trans s5))).trans o6, ?_, ?_, ?_, ?_⟩
    · rw [upd_same]
      unfold refsP
      rw [List.map_append]
      rfl
    · intro q hq
      rcases List.mem_append.mp hq with z | z
      · exact k6 ((k2 q z).same s25)
      · rw [List.mem_singleton.mp z]
        exact k6 ⟨e5, e4.same s5, (st.2.same s4).same s5, (sa.2.same s4).same s5⟩
    · rw [List.length_append, l2]
      rfl
    · rw [List.map_append, m2, List.take_succ, partsS_at hai hti]
      rfl
  · rintro σ H' ⟨y3, y4, y5, y6, ts, rfl, o2, d2, k2, l2, m2⟩
    refine ⟨_, rfl, q D ts H' (fun b o' z => ?_) hD d2 k2 ?_⟩
    · exact o2 _ _ (ne_of_none z hD) (s01 _ _ z)
    · rw [m2, List.take_of_length_le]
      rw [partsS_len, List.length_map]
      exact Nat.le_refl _
/-! ### seen_after -/
abbrev sSeenA : Stmt := topS 31
abbrev nSeenA : List Str := ["friends", "served", "sights", "histories", "number", "between", "row", "elders", "word", "thing"]
abbrev pSeenA : List Str := ["friends", "served", "sights"]
theorem scSeenA : FnScope nSeenA pSeenA (defScope sSeenA) := ⟨rfl, rfl, rfl, by decide +kernel, rfl, by decide +kernel, by decide +kernel⟩
-- slots: 0:friends 1:served 2:sights 3:histories 4:number 5:between 6:row 7:elders 8:word 9:thing
theorem ok_seenA {C f E1 : Addr} {fd : FuncData} (B : Blt mg) (CHst : CalK P w K mg base 6 "history_of" ["friends", "served", "row", "elders"] 3 "elders" (spHistN K) E1) (CRfb : CalX P w K mg base 3 "refuse_bad_sights" ["served", "sights"] (spRefBadX C)) (CStre : Cal P w K mg base 2 "stretches" ["served", "sights"] spStretchX) (F : Fun K "seen_after" "seen_after" sSeenA f fd) : FnOk P w K mg base (L2.CX P w) 7 f fd pSeenA (spSeenN C) := by
  refine fokX F scSeenA (fun vs H Q E h => ?_) (fun cdv A outer s H vs Q E hr h => ?_)
  · obtain ⟨a, sv, p, ps, gone, qs, rfl, _⟩ := h
    rfl
  have hu := hu_of hr
  refine ⟨_, pss_cons (ps_expr (pe_calX CRfb hr (takes_of rfl rfl rfl rfl) (pa_cons (pv 1) (pa_cons (pv 2) pa_nil))))
    (pss_cons (ps_set (i := 3) scSeenA.nd rfl (.inl rfl) (pe_lst pa_nil))
    (pss_cons (ps_for (passes_of rfl) rfl (pi_enum (by rfl) B.enumerate (pa_cons (pe_cal CStre hr (pa_cons (pv 1) (pa_cons (pv 2) pa_nil))) pa_nil)) (pg_tup rfl (pgs_cons (pg_name (i := 4) scSeenA.nd rfl (.inl rfl)) (pgs_cons (pg_tup rfl (pgs_cons (pg_name (i := 5) scSeenA.nd rfl (.inl rfl)) (pgs_cons (pg_name (i := 6) scSeenA.nd rfl (.inl rfl)) (pgs_cons (pg_name (i := 7) scSeenA.nd rfl (.inl rfl)) pgs_nil)))) pgs_nil)))
      (pss_cons (ps_asg (pe_calk CHst hr (pa_cons (pv 0) (pa_cons (pv 5) (pa_cons (pv 6) pa_nil))) (pk_cons (pv 7) pk_nil)) (pg_tup rfl (pgs_cons (pg_name (i := 8) scSeenA.nd rfl (.inl rfl)) (pgs_cons (pg_name (i := 9) scSeenA.nd rfl (.inl rfl)) pgs_nil))))
        (pss_cons (ps_if (pt_cmpR op_eq (pv 8) pe_str (nomark _))
          (pss_one (ps_ret (pe_tupF (pa_cons pe_str (pa_cons (pe_tupF (pa_cons (pv 4) (pa_cons (pv 9) pa_nil))) pa_nil)))))
          pss_nil)
        (pss_one (ps_expr (pe_bm PySem.F.plainAttrs_list PySem.F.slot_list_append PySem.F.type_list_append mt_append (pv 3) (pa_cons (pv 9) pa_nil)))))))
    (pss_one (ps_ret (pe_tupF (pa_cons pe_str (pa_cons (pv 3) pa_nil))))))), ?_⟩
  obtain ⟨a, sv, p, ps, gone, qs, rfl, ha, lps, irr, hsv, hp, hs, ne, ln, fe, qn, qk⟩ := h
  refine ⟨_, rfl, _, rfl, sv, p, gone, qs, rfl, hsv, hp, hs, ne, ln, fe, fun hb H1 s1 => ?_, fun k hb d H1 s1 nd dd => qk k hb d H1 s1 nd dd⟩
  refine ⟨(by show 0 ≤ sizeLine; decide), fun D hD => ?_⟩
  have s0 := s1.trans (same_upd (o := .lst []) hD)
  have hD0 := s1.free hD
  have ok := parts_ok hb
  refine ⟨_, rfl, _, rfl, sv, p, gone, qs, rfl, hsv.same s0, hp.same s0, (fun q hq => (hs q hq).same s0), ne, ln, fun i x y h1 h2 => ⟨(ok i x y h1 h2).le, (ok i x y h1 h2).lg⟩, fun l ts H2 s2 nl hl k2 m2 => ?_⟩
  have s02 := s0.trans s2
  have dD : H2 D = some (.lst []) := s2 _ _ upd_same
  have nlD : l ≠ D := fun z => by
    rw [z] at nl
    cases (upd_same (H := H1) (a := D) (o := .lst [])).symm.trans nl
  have lts : ts.length = qs.length := by
    have := congrArg List.length m2
    rw [List.length_map, partsS_len, List.length_map] at this
    exact this
  have few : ∀ s ∈ qs.map sgOf, gone.length + s.2.length ≤ 60 := fun s h => by
    obtain ⟨q, hq, rfl⟩ := List.mem_map.mp h
    exact fe q hq
  generalize hpts : partsS gone (qs.map sgOf) = pts at m2 qn
  have pg : ∀ i pt, pts[i]? = some pt → PartGood pt := fun i pt h => parts_good hb few i pt (by rw [hpts]; exact h)
  refine ⟨l, _, rfl, .inl (.inl hl), ?_⟩
  refine for_it (walk_enum (xs := refsP ts)) (fun i σ H' => ∃ (y4 y5 y6 y7 y8 y9 : Option V) (hh : List LHs), σ = [some (.ref a), some (.ref sv), some (.ref p), some (.ref D), y4, y5, y6, y7, y8, y9] ∧ Oth D H2 H' ∧ H' D = some (.lst (hh.map fun q => V.ref q.1)) ∧ hh.length = i ∧ (∀ q ∈ hh, q.1 ≠ D) ∧ ∀ (j : Nat) (q : LHs) (pt : Pt), hh[j]? = some q → pts[j]? = some pt → leftL ps pt.2.2 pt.1 pt.2.1 = [] ∧ H' q.1 = some (.lst (refsD q.2)) ∧ DeedsAt H' q.2 ∧ q.2.map (·.2) = (trace ps (stayF pt.2.2 none) pt.1 pt.1.length pt.2.1).1.reverse) ?_ ?_ ?_ ?_
  · exact ⟨_, _, _, _, _, _, [], rfl, Oth.refl _ _, dD, rfl, (fun _ h => nomatch h), (fun _ _ _ h => by cases h)⟩
  · rintro i σ H' _ ⟨y4, y5, y6, y7, y8, y9, hh, _, o2, _⟩
    exact .inl (.inl (o2 _ _ nlD hl))
  · rintro i v σ H3 H3' hi ⟨y4, y5, y6, y7, y8, y9, hh, rfl, o2, d2, l2, n2, g2⟩ ⟨T, x, y, rfl, nT, rfl, ex, ey⟩
    cases ex
    obtain ⟨t, ht, rfl⟩ := at_map ey
    have sT := same_upd (o := .tup [.int (i : Nat), .ref t.1]) nT
    have o3 : Oth D H2 (upd H3 T (.tup [.int (i : Nat), .ref t.1])) := o2.trans (Oth.of sT)
    have tup3 : ∀ {b : Addr} {xs : List V}, TupAt H2 b xs → TupAt (upd H3 T (.tup [.int (i : Nat), .ref t.1])) b xs := fun z => by
      obtain ⟨o, z1, z2⟩ := z
      exact ⟨o, z1, o3 _ _ (ne_of z2 dD fun e => nomatch e) z2⟩
    have s03 : Same H (upd H3 T (.tup [.int (i : Nat), .ref t.1])) := fun b o z => o3 _ _ (ne_of_none z hD0) (s02 _ _ z)
    obtain ⟨⟨k1, kb, kr, ke⟩, ap⟩ := k2 t (List.mem_of_getElem? ht)
    obtain ⟨nb, nr, ne'⟩ := ap D upd_same fun s ms => (hs s ms).2.elim (fun e => e.ne_new hD0) fun e => ne_of_none e hD0
    have row3 : ∀ {b : Addr} {r : List Str}, RowAt H2 b r → b ≠ D → RowAt (upd H3 T (.tup [.int (i : Nat), .ref t.1])) b r := fun z n => z.elim (fun e => .inl (tup3 e)) fun e => .inr (o3 _ _ n e)
    have hpt : pts[i]? = some t.2.2.2.2 := by rw [← m2, List.getElem?_map, ht]; rfl
    have G := pg i _ hpt
    refine ⟨T, _, rfl, .inl (.inl upd_same), rfl, _, _, rfl, _, _, rfl, t.1, _, rfl, (tup3 k1).sq, rfl, _, _, rfl, _, _, rfl, _, _, rfl, rfl, rfl, ?_⟩
    refine ⟨_, rfl, _, rfl, _, rfl, _, rfl, rfl, rfl, a, t.2.1, t.2.2.1, t.2.2.2.1, ps, _, _, _, rfl, ha.same s03, lps, irr, row3 kb nb, row3 kr nr, (fun H' s' => ((row3 ke ne').same s').elim (fun e => .inr e.sq) fun e => .inl (.inl (.inl e))), G.il, G.nd, G.ln, G.le, fun T4 H4 s4 told fresh => ?_⟩
    have s34 := sT.trans s4
    have d4 := s34 _ _ d2
    have o4 : Oth D H2 H4 := o3.trans (Oth.of s4)
    have s04 : Same H H4 := s03.trans s4
    rcases told with ⟨e0, u, ds, eT, eu, du, mu⟩ | ⟨e0, u, rs, eT, eu, ru, mu⟩
    · refine ⟨T4, _, rfl, eT.sq, rfl, _, _, rfl, _, _, rfl, rfl, ?_⟩
      refine ⟨_, rfl, rfl, _, rfl, ite2 (fun c => absurd (of_decide_eq_true c) (by decide +kernel)) (fun _ => ?_)⟩
      have fu := fresh _ u eT
      have nuD : u ≠ D := fun z => by
        rw [z] at fu
        cases (sT _ _ d2).symm.trans fu
      refine ⟨.ref D, rfl, .inl ⟨rfl, _, .inl (.inl d4)⟩, _, rfl, D, _, _, rfl, rfl, d4, small9 (by rw [List.length_map]; unfold refsP at hi; rw [List.length_map] at hi; omega), ?_⟩
      have o6 : Oth D H4 (upd H4 D (.lst ((hh.map fun q => V.ref q.1) ++ [.ref u]))) := Oth.upd
      refine ⟨_, _, _, _, _, _, hh ++ [(u, ds)], rfl, o4.trans o6, ?_, ?_, ?_, ?_⟩
      · rw [upd_same, List.map_append]
        rfl
      · rw [List.length_append, l2]
        rfl
      · intro q hq
        rcases List.mem_append.mp hq with z | z
        · exact n2 q z
        · rw [List.mem_singleton.mp z]
          exact nuD
      · intro j q pt hq hp'
        by_cases c : j < hh.length
        · rw [List.getElem?_append_left c] at hq
          obtain ⟨z0, z1, z2, z3⟩ := g2 j q pt hq hp'
          have nq := n2 q (List.mem_of_getElem? hq)
          exact ⟨z0, o6 _ _ nq (s34 _ _ z1), fun x hx => ((z2 x hx).same s34).upd_ d4, z3⟩
        · have lj : j < (hh ++ [(u, ds)]).length := (List.getElem?_eq_some_iff.mp hq).1
          rw [List.length_append] at lj
          have ej : j = hh.length := by
            have : [(u, ds)].length = 1 := rfl
            omega
          rw [List.getElem?_append_right (by omega), ej, Nat.sub_self] at hq
          cases hq
          rw [ej, l2, hpt] at hp'
          cases hp'
          exact ⟨e0, o6 _ _ nuD eu, fun x hx => (du x hx).upd_ d4, mu⟩
    · refine ⟨T4, _, rfl, eT.sq, rfl, _, _, rfl, _, _, rfl, rfl, ?_⟩
      refine ⟨_, rfl, rfl, _, rfl, ite2 (fun _ => ?_) (fun c => absurd (decide_eq_true rfl) c)⟩
      refine ⟨_, rfl, _, rfl, (by show 2 ≤ sizeLine; decide), fun U H5 s5 n5 e5 => ?_⟩
      refine ⟨(by show 2 ≤ sizeLine; decide), fun T6 H6 s6 n6 e6 => ?_⟩
      have s46 := s5.trans s6
      refine qn hb T6 H6 (s04.trans s46) (.inr ⟨i, t.2.2.2.2, U, u, rs, e6, e5.same s6, hpt, fun j pj hj hpj => ?_, e0, s46 _ _ eu, fun x hx => (ru x hx).same s46, mu⟩) ⟨fun x z => absurd (told_inj e6 z).1 (by decide), fun U' w' p' z z2 => by
        rw [← (told_inj e6 z).2] at z2
        have e := tup_inj (e5.same s6) z2
        injection e with _ e
        injection e with e _
        injection e with e
        rw [← e]
        exact s03.free (fresh _ u eT)⟩
      exact (g2 j _ pj (List.getElem?_eq_getElem (by omega)) hpj).1
  · rintro σ H' ⟨y4, y5, y6, y7, y8, y9, hh, rfl, o2, d2, l2, n2, g2⟩
    refine ⟨_, rfl, (by show 2 ≤ sizeLine; decide), fun T6 H6 s6 n6 e6 => ?_⟩
    have lp : pts.length = ts.length := by rw [← m2, List.length_map]
    refine qn hb T6 H6 (fun b o z => s6 _ _ (o2 _ _ (ne_of_none z hD0) (s02 _ _ z))) (.inl ⟨D, hh, e6, s6 _ _ d2, ?_, fun j q pt h1 h2 => ?_⟩) ⟨fun x z => by rw [← (told_inj e6 z).2]; exact hD0, fun U' w' p' z _ => absurd (told_inj e6 z).1 (by decide)⟩
    · rw [l2, lp]
      unfold refsP
      rw [List.length_map]
    · obtain ⟨z0, z1, z2, z3⟩ := g2 j q pt h1 h2
      exact ⟨z0, s6 _ _ z1, z2.same s6, z3⟩
/-! ### _law_story -/
abbrev sStory : Stmt := topS 61
abbrev nStory : List Str := ["_law_box_here", "_law_pals_here", "_law_pool", "_law_far", "_law_most", "_law_many", "_law_olds", "_law_later", "_law_deeds", "_law_stand", "_law_name", "_law_turn", "_law_gone", "_law_last"]
abbrev aStory : List Str := ["_law_box_here", "_law_pals_here", "_law_pool", "_law_far", "_law_most"]
theorem scStory : FnScope nStory aStory (defScope sStory) := ⟨rfl, rfl, rfl, by decide +kernel, rfl, by decide +kernel, by decide +kernel⟩
theorem ok_story {f : Addr} {fd : FuncData} (B : Blt mg) (CT : Cal P w K mg base 1 "_law_take" ["_law_box_here", "_law_many"] spTake) (CW : Cal P w K mg base 2 "_law_strewn" ["_law_box_here", "_law_some"] spStrewn) (CG : Cal P w K mg base 4 "_law_gone_through" ["_law_pals_here", "_law_olds", "_law_deeds"] spThrough) (F : Fun K "_law_story" "_law_story" sStory f fd) : FnOk P w K mg base CX0 5 f fd aStory spStory := by
  refine fok F scStory (fun vs H Q E h => ?_) (fun cdv A outer s H vs Q E hr h => ?_)
  · obtain ⟨b, a, l, ps, pool, far, most, rfl, _⟩ := h
    rfl
  obtain ⟨b, a, l, ps, pool, far, most, rfl, hb, ha, hpo, hl, gp, nd, f0, f8, ln, q⟩ := h
  refine ⟨_, pss_cons (ps_set (i := 5) scStory.nd rfl (.inl rfl) (pe_callB (call_min2 rfl) (by rfl) B.min (by decide +kernel) (pa_cons (pv 4) (pa_cons (pe_ix ix_list (pe_lst (pa_cons pe_int (pa_cons pe_int (pa_cons pe_int (pa_cons (pe_cal CT hr (pa_cons (pv 0) (pa_cons (pe_op op_add pe_int (pe_op op_fdiv (pe_callB call_len_seq (by rfl) B.len PySem.boot_len (pa_cons (pv 2) pa_nil)) pe_int)) pa_nil))) pa_nil))))) (pe_cal CT hr (pa_cons (pv 0) (pa_cons pe_int pa_nil))) (fun _ _ => rfl)) pa_nil))))
    (pss_cons (ps_par3 (i := 6) (j := 7) (l := 8) (by rfl) scStory.nd rfl rfl rfl (by decide) (by decide) (by decide) rfl rfl rfl (pa_cons (pe_callTy call_tupleF (by rfl) B.tuple (by decide +kernel) (pa_cons (pe_slice sl_list (pv 2) po_none (po_some (pv 5))) pa_nil)) (pa_cons (pe_cal CW hr (pa_cons (pv 0) (pa_cons (pe_slice sl_list (pv 2) (po_some (pv 5)) po_none) pa_nil))) (pa_cons (pe_lst pa_nil) pa_nil))) (by rfl))
    (pss_cons (ps_set (i := 9) scStory.nd rfl (.inl rfl) (pe_callB call_len_seq (by rfl) B.len PySem.boot_len (pa_cons (pv 6) pa_nil)))
    (pss_cons (ps_for PassesOwn.never rfl (pi_list (pv 7)) (pg_name (i := 10) scStory.nd rfl (.inl rfl))
      (pss_cons (ps_for PassesOwn.never rfl (pi_range1 (by rfl) B.range (pa_cons (pe_cal CT hr (pa_cons (pv 0) (pa_cons (pv 3) pa_nil))) pa_nil)) (pg_name (i := 11) scStory.nd rfl (.inl rfl))
        (pss_one (ps_if (pt_cmpR op_gt (pv 9) pe_int (nomark _)) (pss_cons (ps_expr (pe_bm PySem.F.plainAttrs_list PySem.F.slot_list_append PySem.F.type_list_append mt_append (pv 8) (pa_cons (pe_tupF (pa_cons pe_str pa_nil)) pa_nil))) (pss_one (ps_set (i := 9) scStory.nd rfl (.inl rfl) (pe_op op_sub (pv 9) pe_int)))) pss_nil)))
      (pss_cons (ps_expr (pe_bm PySem.F.plainAttrs_list PySem.F.slot_list_append PySem.F.type_list_append mt_append (pv 8) (pa_cons (pe_tupF (pa_cons pe_str (pa_cons (pv 10) pa_nil))) pa_nil)))
      (pss_one (ps_set (i := 9) scStory.nd rfl (.inl rfl) (pe_op op_add (pv 9) pe_int))))))
    (pss_cons (ps_for PassesOwn.never rfl (pi_range1 (by rfl) B.range (pa_cons (pe_cal CT hr (pa_cons (pv 0) (pa_cons (pe_op op_add pe_int (pe_callB (call_min2 rfl) (by rfl) B.min (by decide +kernel) (pa_cons (pv 9) (pa_cons (pv 3) pa_nil)))) pa_nil))) pa_nil)) (pg_name (i := 11) scStory.nd rfl (.inl rfl))
      (pss_one (ps_expr (pe_bm PySem.F.plainAttrs_list PySem.F.slot_list_append PySem.F.type_list_append mt_append (pv 8) (pa_cons (pe_tupF (pa_cons pe_str pa_nil)) pa_nil)))))
    (pss_cons (ps_asg (pe_cal CG hr (pa_cons (pv 1) (pa_cons (pv 6) (pa_cons (pv 8) pa_nil)))) (pg_tup rfl (pgs_cons (pg_name (i := 12) scStory.nd rfl (.inl rfl)) (pgs_cons (pg_name (i := 13) scStory.nd rfl (.inl rfl)) pgs_nil))))
    (pss_one (ps_ret (pe_tup (pa_cons (pv 6) (pa_cons (pv 8) (pa_cons (pv 12) (pa_cons (pv 13) pa_nil)))))))))))), ?_⟩
  have pl : pool.length ≤ 80 := by omega
  refine ⟨.int (most : Nat), rfl, .ref b, rfl, .ref l, rfl, l, _, rfl, .inl (.inl (.inl hl)), _, _, rfl, rfl, ⟨by decide, by decide⟩, _, _, rfl, rfl, ?_⟩
  refine ⟨b, _, rfl, hb, by rw [List.length_map]; omega, by rw [List.length_map]; omega, fun v1 H1 o1 b1 v10 v11 => ?_⟩
  refine ⟨(by show 4 ≤ sizeLine; decide), fun L hL => ?_⟩
  have s2 := same_upd (o := .lst [.int 0, .int 0, .int 1, .int v1]) hL
  have nLb : L ≠ b := b1.ne_none hL
  refine ⟨.ref b, rfl, b, 4, rfl, b1.same s2, by decide, by decide, fun v2 H3 o3 b3 v20 v21 => ?_⟩
  have hL3 := o3 _ _ nLb (upd_same (H := H1) (a := L) (o := .lst [.int 0, .int 0, .int 1, .int v1]))
  rw [List.length_map] at v11
  obtain ⟨c, hc, hcb⟩ : ∃ c : Nat, atI [V.int 0, V.int 0, V.int 1, V.int v1] v2 = some (.int (c : Nat)) ∧ c ≤ max 1 (pool.length / 2) := by
    have : v2 = 0 ∨ v2 = 1 ∨ v2 = 2 ∨ v2 = 3 := by omega
    rcases this with z | z | z | z <;> subst z
    · exact ⟨0, rfl, by omega⟩
    · exact ⟨0, rfl, by omega⟩
    · exact ⟨1, rfl, by omega⟩
    · exact ⟨v1.toNat, by rw [show ((v1.toNat : Nat) : Int) = v1 by omega]; rfl, by omega⟩
  refine ⟨L, _, _, _, rfl, rfl, .inl (.inl hL3), hc, _, _, rfl, ?_⟩
  have o03 : Oth b H H3 := (o1.trans (.of s2)).trans o3
  have em : (if ((c : Nat) : Int) < ((most : Nat) : Int) then ((c : Nat) : Int) else ((most : Nat) : Int)) = ((min most c : Nat) : Int) := by
    split <;> omega
  rw [em]
  obtain ⟨many, hmany⟩ : ∃ many, many = min most c := ⟨_, rfl⟩
  rw [← hmany]
  have mm : many ≤ min most (max 1 (pool.length / 2)) := by omega
  have l3 := o03 _ _ (hb.ne_strs hl) hl
  refine ⟨.ref l, rfl, _, rfl, _, rfl, l, _, rfl, .inl (.inl l3), fun p1 hp1 => ?_⟩
  rw [cutV_map, cutL_to]
  have s4 := same_upd (o := .lst ((pool.take many).map V.str)) hp1
  refine ⟨p1, _, rfl, .inl ⟨.inl (.inl upd_same), fun o H5 s5 n5 t5 => ?_⟩⟩
  have s35 := s4.trans s5
  have b5 := b3.same s35
  have l5 := s35 _ _ l3
  refine ⟨.ref b, rfl, .ref l, rfl, _, rfl, _, rfl, l, _, rfl, .inl (.inl l5), fun p2 hp2 => ?_⟩
  rw [cutV_map, cutL_from]
  have s6 := same_upd (o := .lst ((pool.drop many).map V.str)) hp2
  refine ⟨b, p2, _, rfl, b5.same s6, .inr upd_same, by rw [List.length_drop]; omega, fun la later H7 o7 b7 n7 la7 pm7 => ?_⟩
  refine ⟨(by show 0 ≤ sizeLine; decide), fun dl hdl => ⟨_, _, _, rfl, ?_⟩⟩
  have s8 := same_upd (o := .lst []) hdl
  have o07 : Oth b H H7 := ((o03.trans (.of s35)).trans (.of s6)).trans o7
  have nlb : dl ≠ b := b7.ne_none hdl
  have hdl0 : H dl = none := o07.free nlb hdl
  have t7 : TupAt H7 o ((pool.take many).map V.str) := (t5.same s6).oth o7 (b5.same s6)
  have pmo : (pool.take many ++ later).Perm pool := (List.Perm.append_left _ pm7).trans (by rw [List.take_append_drop])
  have lo : (pool.take many).length ≤ many := by rw [List.length_take]; omega
  have lsum := pmo.length_eq
  rw [List.length_append] at lsum
  have ndo : (pool.take many ++ later).Nodup := pmo.nodup_iff.mpr nd
  have gl : Goods later := fun x hx => gp x (pmo.mem_iff.mp (List.mem_append_right _ hx))
  have go_ : Goods (pool.take many) := fun x hx => gp x (pmo.mem_iff.mp (List.mem_append_left _ hx))
  generalize pool.take many = olds at t7 pmo lo lsum ndo go_
  refine ⟨.ref o, rfl, o, _, rfl, .inr (t7.same s8).sq, ?_⟩
  rw [List.length_map]
  have app : ∀ {H' : Hp} {ds : List LD} {T : Addr} {d : Deed}, DeedsAt H' ds → TupAt H' T ((deedL d).map V.str) → H' dl = some (.lst (refsD ds)) → DeedsAt (upd H' dl (.lst (refsD ds ++ [.ref T]))) (ds ++ [(T, d)]) := fun h1 h2 h3 qd hq => by
    rcases List.mem_append.mp hq with z | z
    · exact (h1 qd z).upd_ h3
    · rw [List.mem_singleton.mp z]
      exact h2.upd_ h3
  have lenF : ∀ {ds : List LD} {n i : Nat}, fitN olds.length (ds.map (·.2)) = some n → comers (ds.map (·.2)) = later.take i → olds.length + ds.length ≤ 80 := fun {ds n i} f c => by
    have := fitN_len _ f
    rw [List.length_map, c, List.length_take] at this
    omega
  have lenG : ∀ {ds : List LD} {n : Nat}, fitN olds.length (ds.map (·.2)) = some n → comers (ds.map (·.2)) = later → olds.length + ds.length ≤ 80 := fun {ds n} f c => by
    have := fitN_len _ f
    rw [List.length_map, c] at this
    omega
  have rap : ∀ (ds : List LD) (T : Addr) (d : Deed), refsD ds ++ [V.ref T] = refsD (ds ++ [(T, d)]) := fun ds T d => by
    unfold refsD
    rw [List.map_append]
    rfl
  have keepO : ∀ {H' H'' : Hp} {u : HO}, Oth b H H' → Same H' H'' → Oth b H (upd H'' dl u) := fun h1 h2 c o' n z => by
    rw [upd_ne (ne_of_none z hdl0)]
    exact h2 _ _ (h1 _ _ n z)
  have boxU : ∀ {H' : Hp} {u : HO}, IsBox H' b → IsBox (upd H' dl u) b := fun h => by
    unfold IsBox at h ⊢
    rw [upd_ne (Ne.symm nlb)]
    exact h
  refine ⟨.ref la, rfl, la, rfl, ⟨_, .inl (.inl (s8 _ _ la7))⟩, ?_⟩
  have nla : la ≠ dl := fun z => by rw [z, hdl] at la7; cases la7
  refine for_it (walk_list (xs := later.map V.str)) (fun i σ H' => ∃ (ds : List LD) (n : Nat) (y10 y11 : Option V), σ = [some (.ref b), some (.ref a), some (.ref l), some (.int (far : Nat)), some (.int (most : Nat)), some (.int (many : Nat)), some (.ref o), some (.ref la), some (.ref dl), some (.int (n : Nat)), y10, y11, none, none] ∧ Oth b H H' ∧ IsBox H' b ∧ TupAt H' o (olds.map V.str) ∧ H' la = some (.lst (later.map V.str)) ∧ H' dl = some (.lst (refsD ds)) ∧ DeedsAt H' ds ∧ comers (ds.map (·.2)) = later.take i ∧ fitN olds.length (ds.map (·.2)) = some n ∧ ds.length ≤ 81) ?_ ?_ ?_ ?_
  · exact ⟨[], olds.length, _, _, rfl, o07.trans (.of s8), b7.same s8, t7.same s8, s8 _ _ la7, upd_same, (fun _ h => nomatch h), rfl, rfl, Nat.zero_le _⟩
  · rintro i σ H' _ ⟨ds, n, y10, y11, _, _, _, _, e, _⟩
    exact .inl (.inl e)
  · rintro i v σ H9 H10 hi ⟨ds, n, y10, y11, rfl, o10, b10, t10, la10, d10, da10, c10, f10, l10⟩ ⟨rfl, ex⟩
    obtain ⟨x, hx, rfl⟩ := at_map ex
    have mx : x ∈ later := List.mem_of_getElem? hx
    have hil : i < later.length := (List.getElem?_eq_some_iff.mp hx).1
    refine ⟨.ref b, rfl, _, rfl, b, _, rfl, b10, by omega, by omega, fun v H11 o11 b11 v0 v1 => ?_⟩
    refine ⟨_, rfl, by omega, by omega, ?_⟩
    have nlab : la ≠ b := b10.ne_strs la10
    refine for_it (walk_range (lo := 0) (n := v.toNat)) (fun j σ H' => ∃ (ds : List LD) (n : Nat) (y11 : Option V), σ = [some (.ref b), some (.ref a), some (.ref l), some (.int (far : Nat)), some (.int (most : Nat)), some (.int (many : Nat)), some (.ref o), some (.ref la), some (.ref dl), some (.int (n : Nat)), some (.str x), y11, none, none] ∧ Oth b H H' ∧ IsBox H' b ∧ TupAt H' o (olds.map V.str) ∧ H' la = some (.lst (later.map V.str)) ∧ H' dl = some (.lst (refsD ds)) ∧ DeedsAt H' ds ∧ comers (ds.map (·.2)) = later.take i ∧ fitN olds.length (ds.map (·.2)) = some n ∧ ds.length ≤ 81) ?_ (fun _ _ _ _ _ => trivial) ?_ ?_
    · exact ⟨ds, n, _, rfl, o10.trans o11, b11, t10.oth o11 b10, o11 _ _ nlab la10, o11 _ _ nlb d10, (fun qd hq => (da10 qd hq).oth o11 b10), c10, f10, l10⟩
    · rintro j w σ H12 H13 hj ⟨ds, n, y11, rfl, o13, b13, t13, la13, d13, da13, c13, f13, l13⟩ ⟨rfl, rfl⟩
      refine ⟨_, rfl, _, _, rfl, rfl, _, rfl, ite2 (fun c => ?_) (fun c => ?_)⟩
      · have c' : (0 : Int) < ((n : Nat) : Int) := of_decide_eq_true c
        refine ⟨.ref dl, rfl, .inl ⟨rfl, _, .inl (.inl d13)⟩, (by show 1 ≤ sizeLine; decide), fun T H14 s14 n14 t14 => ?_⟩
        have d14 := s14 _ _ d13
        refine ⟨dl, _, _, rfl, rfl, d14, ?_, ?_⟩
        · unfold refsD
          rw [List.length_map]
          exact small1000 (by omega)
        have lf := lenF f13 c13
        refine ⟨_, rfl, _, _, rfl, rfl, ?_⟩
        have en : V.int (((n : Nat) : Int) - 1) = V.int ((n - 1 : Nat) : Int) := congrArg V.int (by omega)
        refine ⟨ds ++ [(T, none)], n - 1, some (V.int ((0 : Int) + (j : Int))), (by rw [← en]; rfl), keepO o13 s14, boxU (b13.same s14), (t13.same s14).upd_ d14, (upd_ne nla).trans (s14 _ _ la13), ?_, app (da13.same s14) t14 d14, ?_, ?_, ?_⟩
        · rw [upd_same, rap ds T none]
        · rw [List.map_append]
          show comers (ds.map (·.2) ++ [none]) = _
          rw [comers_snoc, c13]
          exact List.append_nil _
        · rw [List.map_append, fitN_app, f13]
          show (if n = 0 then none else some (n - 1)) = _
          rw [if_neg (by omega)]
        · rw [List.length_append]
          show ds.length + 1 ≤ _
          omega
      · exact ⟨ds, n, _, rfl, o13, b13, t13, la13, d13, da13, c13, f13, by omega⟩
    · rintro σ H13 ⟨ds, n, y11, rfl, o13, b13, t13, la13, d13, da13, c13, f13, l13⟩
      refine ⟨.ref dl, rfl, .inl ⟨rfl, _, .inl (.inl d13)⟩, .str x, rfl, (by show 2 ≤ sizeLine; decide), fun T H14 s14 n14 t14 => ?_⟩
      have d14 := s14 _ _ d13
      refine ⟨dl, _, _, rfl, rfl, d14, ?_, ?_⟩
      · unfold refsD
        rw [List.length_map]
        exact small1000 (by omega)
      have lf := lenF f13 c13
      refine ⟨_, rfl, _, _, rfl, rfl, ?_⟩
      refine ⟨ds ++ [(T, some x)], n + 1, _, _, rfl, keepO o13 s14, boxU (b13.same s14), (t13.same s14).upd_ d14, (upd_ne nla).trans (s14 _ _ la13), ?_, app (da13.same s14) t14 d14, ?_, ?_, ?_⟩
      · rw [upd_same, rap ds T (some x)]
      · rw [List.map_append]
        show comers (ds.map (·.2) ++ [some x]) = _
        rw [comers_snoc, c13, List.take_add_one, hx]
      · rw [List.map_append, fitN_app, f13]
        rfl
      · rw [List.length_append]
        show ds.length + 1 ≤ _
        omega
  · rintro σ H10 ⟨ds, n, y10, y11, rfl, o10, b10, t10, la10, d10, da10, c10, f10, l10⟩
    rw [List.length_map, List.take_of_length_le (Nat.le_refl _)] at c10
    have lnn : n ≤ 1000 := by
      have := fitN_le _ f10
      rw [List.length_map] at this
      omega
    refine ⟨.ref b, rfl, _, rfl, _, rfl, _, _, rfl, _, _, rfl, rfl, ?_⟩
    have mn : (if ((far : Nat) : Int) < ((n : Nat) : Int) then ((far : Nat) : Int) else ((n : Nat) : Int)) = ((min n far : Nat) : Int) := by
      split <;> omega
    rw [mn]
    refine ⟨b, _, rfl, b10, by omega, by omega, fun v H11 o11 b11 v0 v1 => ?_⟩
    refine ⟨_, rfl, by omega, by omega, ?_⟩
    have nlab : la ≠ b := b10.ne_strs la10
    refine for_it (walk_range (lo := 0) (n := v.toNat)) (fun j σ H' => ∃ (ds : List LD) (y11 : Option V), σ = [some (.ref b), some (.ref a), some (.ref l), some (.int (far : Nat)), some (.int (most : Nat)), some (.int (many : Nat)), some (.ref o), some (.ref la), some (.ref dl), some (.int (n : Nat)), y10, y11, none, none] ∧ Oth b H H' ∧ IsBox H' b ∧ TupAt H' o (olds.map V.str) ∧ H' dl = some (.lst (refsD ds)) ∧ DeedsAt H' ds ∧ comers (ds.map (·.2)) = later ∧ fitN olds.length (ds.map (·.2)) = some (n - j) ∧ ds.length ≤ 81) ?_ (fun _ _ _ _ _ => trivial) ?_ ?_
    · exact ⟨ds, _, rfl, o10.trans o11, b11, t10.oth o11 b10, o11 _ _ nlb d10, (fun qd hq => (da10 qd hq).oth o11 b10), c10, f10, l10⟩
    · rintro j w σ H12 H13 hj ⟨ds, y11, rfl, o13, b13, t13, d13, da13, c13, f13, l13⟩ ⟨rfl, rfl⟩
      refine ⟨.ref dl, rfl, .inl ⟨rfl, _, .inl (.inl d13)⟩, (by show 1 ≤ sizeLine; decide), fun T H14 s14 n14 t14 => ?_⟩
      have d14 := s14 _ _ d13
      refine ⟨dl, _, _, rfl, rfl, d14, ?_, ?_⟩
      · unfold refsD
        rw [List.length_map]
        exact small1000 (by omega)
      have lf := lenG f13 c13
      refine ⟨ds ++ [(T, none)], _, rfl, keepO o13 s14, boxU (b13.same s14), (t13.same s14).upd_ d14, ?_, app (da13.same s14) t14 d14, ?_, ?_, ?_⟩
      · rw [upd_same, rap ds T none]
      · rw [List.map_append]
        show comers (ds.map (·.2) ++ [none]) = _
        rw [comers_snoc, c13]
        exact List.append_nil _
      · rw [List.map_append, fitN_app, f13]
        show (if n - j = 0 then none else some (n - j - 1)) = _
        rw [if_neg (by omega)]
        rfl
      · rw [List.length_append]
        show ds.length + 1 ≤ _
        omega
    · rintro σ H13 ⟨ds, y11, rfl, o13, b13, t13, d13, da13, c13, f13, l13⟩
      have no : ∀ x ∈ comers (ds.map (·.2)), x ∉ olds := fun x hx z => by
        rw [c13] at hx
        exact (List.nodup_append.mp ndo).2.2 x z x hx rfl
      have lf := lenG f13 c13
      obtain ⟨st, gn, g, _⟩ := go_fit (ps := ps) (ds.map (·.2)) (gn := []) (met := olds) f13 (by rw [c13]; exact nd_right ndo) no
      have gd : ∀ qd ∈ ds, ∀ x, qd.2 = some x → Good x := fun qd hq x e => gl x (by
        rw [← c13]
        unfold comers
        exact List.mem_filterMap.mpr ⟨some x, List.mem_map.mpr ⟨qd, hq, e⟩, rfl⟩)
      refine ⟨_, rfl, _, rfl, _, rfl, a, o, dl, ps, olds, ds, rfl, ha.oth o13 hb, hpo, .inl t13, go_, d13, da13, gd, by omega, ?_, ?_⟩
      · intro H14 s14 no
        rw [g] at no
        cases no
      · intro T t' g' st' gn' H14 s14 yes eT e1 e2
        rw [g] at yes
        refine ⟨T, _, rfl, .inl (.inl eT), rfl, _, _, rfl, _, _, rfl, rfl, ?_⟩
        refine ⟨_, rfl, _, rfl, _, rfl, _, rfl, (by show 4 ≤ sizeLine; decide), fun T2 hT2 => ?_⟩
        have s15 := same_upd (o := .tup [.ref o, .ref dl, .ref g', .ref t']) hT2
        refine q T2 o dl g' t' olds ds st' gn' _ (o13.trans (.of (s14.trans s15))) ((b13.same s14).same s15) upd_same ((t13.same s14).same s15) hdl0 (s15 _ _ (s14 _ _ d13)) ((da13.same s14).same s15) (by rw [c13]; exact pmo) (by omega) (by omega) (g.trans yes) (e2.same s15) (e1.same s15)
/-! ### host_place, stood_in, let_in -/
abbrev sHostP : Stmt := topS 33
abbrev nHostP : List Str := ["known", "row", "who"]
theorem scHostP : FnScope nHostP nHostP (defScope sHostP) := ⟨rfl, rfl, rfl, by decide +kernel, rfl, by decide +kernel, by decide +kernel⟩
theorem ok_hostP {f : Addr} {fd : FuncData} (CL : Cal P w K mg base 1 "last_friend_place" ["known", "row", "who"] spLfp) (F : Fun K "host_place" "host_place" sHostP f fd) : FnOk P w K mg base CX0 2 f fd nHostP spHostP := by
  refine fok F scHostP (fun vs H Q E h => ?_) (fun cdv A outer s H vs Q E hr h => ?_)
  · obtain ⟨a, r, ps, row, who, rfl, _⟩ := h
    rfl
  obtain ⟨d, r, ps, row, who, rfl, hd, hrow, hn, nw, q⟩ := h
  refine ⟨_, pss_cons (ps_if (pt_cmpR op_in_seq (pv 2) (pv 1) (by rfl)) (pss_one ps_never) pss_nil)
    (pss_one (ps_ret (pe_cal CL hr (pa_cons (pv 0) (pa_cons (pv 1) (pa_cons (pv 2) pa_nil)))))), ?_⟩
  have sq : SqL K H r (row.map V.str) ∨ SqT K H r (row.map V.str) := hrow.elim (fun e => .inr e.sq) (fun e => .inl (.inl (.inl e)))
  refine ⟨_, rfl, .ref r, rfl, r, _, rfl, sq, rfl, flat_strs row, _, rfl, ?_⟩
  rw [inV_strs, decide_eq_false nw]
  exact ⟨_, rfl, _, rfl, _, rfl, d, r, ps, row, who, rfl, hd, hrow, hn, fun H2 s2 => q H2 s2⟩
def spComingP : Sp := fun vs H Q _ => ∃ (d r : Addr) (ps : List (Str × Str)) (row : List Str) (who : Str), vs = [.ref d, .ref r, .str who] ∧ KnAt H d ps ∧ RowAt H r row ∧ row.length ≤ 100 ∧ who ∉ row ∧
  ∀ H', Same H H' → Q (.int (spotOf ps row who : Nat)) H'
theorem spot_le (ps : List (Str × Str)) (row : List Str) (who : Str) : spotOf ps row who ≤ row.length := by
  unfold spotOf
  split
  · rename_i k ek
    exact lastP_lt ek
  · exact Nat.le_refl _
abbrev sComingP : Stmt := topS 34
abbrev nComingP : List Str := ["known", "row", "who", "place"]
theorem scComingP : FnScope nComingP nHostP (defScope sComingP) := ⟨rfl, rfl, rfl, by decide +kernel, rfl, by decide +kernel, by decide +kernel⟩
theorem ok_comingP {f : Addr} {fd : FuncData} (B : Blt mg) (CH : Cal P w K mg base 2 "host_place" nHostP spHostP) (F : Fun K "coming_place" "coming_place" sComingP f fd) : FnOk P w K mg base CX0 3 f fd nHostP spComingP := by
  refine fok F scComingP (fun vs H Q E h => ?_) (fun cdv A outer s H vs Q E hr h => ?_)
  · obtain ⟨a, r, ps, row, who, rfl, _⟩ := h
    rfl
  obtain ⟨a, r, ps, row, who, rfl, ha, hrow, hn, nw, q⟩ := h
  refine ⟨_, pss_cons (ps_set (i := 3) scComingP.nd rfl (.inl rfl) (pe_cal CH hr (pa_cons (pv 0) (pa_cons (pv 1) (pa_cons (pv 2) pa_nil)))))
    (pss_one (ps_ret (pe_ifExp (pt_cmp (pc_isN (pv 3))) (pe_callB call_len_seq (by rfl) B.len PySem.boot_len (pa_cons (pv 1) pa_nil)) (pe_op op_add (pv 3) pe_int)))), ?_⟩
  refine ⟨_, rfl, _, rfl, _, rfl, a, r, ps, row, who, rfl, ha, hrow, hn, nw, fun H1 s1 => ?_⟩
  have row1 := hrow.same s1
  refine ⟨_, rfl, _, rfl, ?_⟩
  have q1 := q H1 s1
  unfold spotOf at q1
  cases e : lastP (frd ps who) row with
  | none =>
    have sq : SqL K H1 r (row.map V.str) ∨ SqT K H1 r (row.map V.str) := row1.elim (fun e => .inr e.sq) (fun e => .inl (.inl (.inl e)))
    refine ⟨.ref r, rfl, r, _, rfl, sq, ?_⟩
    rw [List.length_map]
    rw [e] at q1
    exact q1
  | some k =>
    rw [e] at q1
    exact ⟨_, rfl, _, _, rfl, rfl, q1⟩
abbrev sStood : Stmt := topS 35
abbrev nStood : List Str := ["known", "row", "who", "at"]
theorem scStood : FnScope nStood nHostP (defScope sStood) := ⟨rfl, rfl, rfl, by decide +kernel, rfl, by decide +kernel, by decide +kernel⟩
theorem ok_stood {f : Addr} {fd : FuncData} (B : Blt mg) (CH : Cal P w K mg base 3 "coming_place" nHostP spComingP) (F : Fun K "stood_in" "stood_in" sStood f fd) : FnOk P w K mg base CX0 4 f fd nHostP spStood := by
  refine fok F scStood (fun vs H Q E h => ?_) (fun cdv A outer s H vs Q E hr h => ?_)
  · obtain ⟨a, r, ps, row, who, rfl, _⟩ := h
    rfl
  obtain ⟨a, r, ps, row, who, rfl, ha, hrow, hn, nw, q⟩ := h
  refine ⟨_, pss_cons (ps_set (i := 3) scStood.nd rfl (.inl rfl) (pe_cal CH hr (pa_cons (pv 0) (pa_cons (pv 1) (pa_cons (pv 2) pa_nil)))))
    (pss_one (ps_ret (pe_op op_catM (pe_op op_catM (pe_mid (pe_callTy call_tupleF (by rfl) B.tuple (by decide +kernel) (pa_cons (pe_slice (sl_or2 sl_list sl_tupM) (pv 1) po_none (po_some (pv 3))) pa_nil))) (pe_tupF (pa_cons (pv 2) pa_nil))) (pe_mid (pe_callTy call_tupleF (by rfl) B.tuple (by decide +kernel) (pa_cons (pe_slice (sl_or2 sl_list sl_tupM) (pv 1) (po_some (pv 3)) po_none) pa_nil)))))), ?_⟩
  refine ⟨_, rfl, _, rfl, _, rfl, a, r, ps, row, who, rfl, ha, hrow, hn, nw, fun H1 s1 => ?_⟩
  have row1 := hrow.same s1
  have hspot := spot_le ps row who
  refine ⟨fun v H2 => ∃ t, v = .ref t ∧ Same H1 H2 ∧ TupAt H2 t ((row.take (spotOf ps row who)).map V.str), ?_, ?_⟩
  · rcases row1 with e | e
    · refine ⟨.ref r, rfl, _, rfl, _, rfl, .inr ⟨r, _, rfl, e, fun t H2 s2 e2 => ?_⟩⟩
      rw [cutV_map, cutL_to] at e2
      exact ⟨t, _, rfl, .inr ⟨e2.sq, t, rfl, s2, e2⟩⟩
    · refine ⟨.ref r, rfl, _, rfl, _, rfl, .inl ⟨r, _, rfl, .inl (.inl e), fun p hp => ?_⟩⟩
      rw [cutV_map, cutL_to]
      exact ⟨p, _, rfl, .inl ⟨.inl (.inl upd_same), fun t H2 s2 n2 t2 => ⟨t, rfl, (same_upd hp).trans s2, t2⟩⟩⟩
  rintro v H2 ⟨t1, rfl, s2, e2⟩
  refine ⟨_, rfl, (by show 1 ≤ sizeLine; decide), fun p H3 s3 hp3 t3 => ?_⟩
  refine ⟨t1, p, _, _, rfl, rfl, e2.same s3, t3, ?_, fun t4 H4 s4 e4 => ?_⟩
  · rw [List.length_map, List.length_take]
    exact small_le (by show _ + 1 ≤ 1000; omega)
  have s24 := (s2.trans s3).trans s4
  have row4 := row1.same s24
  refine ⟨fun v H5 => ∃ t, v = .ref t ∧ Same H4 H5 ∧ TupAt H5 t ((row.drop (spotOf ps row who)).map V.str), ?_, ?_⟩
  · rcases row4 with e | e
    · refine ⟨.ref r, rfl, _, rfl, _, rfl, .inr ⟨r, _, rfl, e, fun t H5 s5 e5 => ?_⟩⟩
      rw [cutV_map, cutL_from] at e5
      exact ⟨t, _, rfl, .inr ⟨e5.sq, t, rfl, s5, e5⟩⟩
    · refine ⟨.ref r, rfl, _, rfl, _, rfl, .inl ⟨r, _, rfl, .inl (.inl e), fun p hp => ?_⟩⟩
      rw [cutV_map, cutL_from]
      exact ⟨p, _, rfl, .inl ⟨.inl (.inl upd_same), fun t H2 s2 n2 t2 => ⟨t, rfl, (same_upd hp).trans s2, t2⟩⟩⟩
  rintro v H5 ⟨t5, rfl, s5, e5⟩
  refine ⟨t4, t5, _, _, rfl, rfl, e4.same s5, e5, ?_, fun t6 H6 s6 e6 => ?_⟩
  · rw [List.length_append, List.length_map, List.length_map, List.length_take, List.length_drop]
    exact small_le (by show _ + 1 + _ ≤ 1000; omega)
  refine q t6 H6 ((s1.trans s24).trans (s5.trans s6)) ?_
  unfold comeTo
  rw [List.map_append, List.map_append]
  exact e6
abbrev sLetIn : Stmt := topS 36
abbrev nLetIn : List Str := ["friends", "row", "who"]
theorem scLetIn : FnScope nLetIn nLetIn (defScope sLetIn) := ⟨rfl, rfl, rfl, by decide +kernel, rfl, by decide +kernel, by decide +kernel⟩
theorem ok_letIn {f : Addr} {fd : FuncData} (CB : Cal P w K mg base 1 "both_ways" ["friends"] spBoth) (CS : Cal P w K mg base 4 "stood_in" ["known", "row", "who"] spStood) (F : Fun K "let_in" "let_in" sLetIn f fd) : FnOk P w K mg base CX0 5 f fd nLetIn spLetIn := by
  refine fok F scLetIn (fun vs H Q E h => ?_) (fun cdv A outer s H vs Q E hr h => ?_)
  · obtain ⟨a, r, ps, row, who, rfl, _⟩ := h
    rfl
  obtain ⟨a, r, ps, row, who, rfl, ha, hp, hrow, hn, nw, q⟩ := h
  refine ⟨_, pss_one (ps_ret (pe_cal CS hr (pa_cons (pe_cal CB hr (pa_cons (pv 0) pa_nil)) (pa_cons (pv 1) (pa_cons (pv 2) pa_nil))))), ?_⟩
  refine ⟨_, rfl, a, ps, rfl, ha, hp, fun d H1 s1 nd1 k1 => ?_⟩
  exact ⟨_, rfl, _, rfl, d, r, ps, row, who, rfl, k1, hrow.same s1, hn, nw, fun t H2 s2 e2 => q t H2 (s1.trans s2) e2⟩
/-! ### is_name, is_row, shows_order -/
abbrev sIsName : Stmt := topS 7
abbrev nIsName : List Str := ["thing", "letter"]
theorem scIsName : FnScope nIsName ["thing"] (defScope sIsName) := ⟨rfl, rfl, rfl, by decide +kernel, rfl, by decide +kernel, by decide +kernel⟩
theorem ok_isName {f : Addr} {fd : FuncData} (B : Blt mg) (hL : ∃ u, mg "LONGEST_NAME" = some u ∧ RelV (.int 8) u) (F : Fun K "is_name" "is_name" sIsName f fd) : FnOk P w K mg base CX0 1 f fd ["thing"] spIsName := by
  obtain ⟨uL, hmL, rL⟩ := hL
  refine fok F scIsName (fun vs H Q E h => ?_) (fun cdv A outer s H vs Q E hr h => ?_)
  · obtain ⟨x, rfl, _⟩ := h
    rfl
  obtain ⟨x, rfl, ok, q⟩ := h
  have ln := ok.len
  have l0 : 1 ≤ x.length := by rw [len_tlx]; exact ok.1
  refine ⟨_, pss_cons (ps_if (PW.pt (pw_or (pt_not (pt_val (pe_callB call_isi (by rfl) B.isinstance (by decide +kernel) (pa_cons (pv 0) (pa_cons (pe_bltn (v := .ty "str") (by rfl) B.str (by decide +kernel) rfl) pa_nil))))) (pw_or1 (pt_not (pt_chain op_le op_le pe_int (pe_callB call_len_str (by rfl) B.len PySem.boot_len (pa_cons (pv 0) pa_nil)) (pe_glob (v := .int 8) (by rfl) hmL rL)))))) (pss_one (ps_ret pe_bl)) pss_nil)
    (pss_one (ps_ret (pe_callB (cr_all rfl) (by rfl) B.all (by decide +kernel) (pa_cons (pe_lc (own := [("letter", 1)]) (g := gName 1) (tt := tYes) (te := tChain rLeS rLeS (tC (.str "a")) (tVar 1) (tC (.str "z"))) rfl scIsName.nd (pi_str (pv 0)) (blkOk_by (N := nIsName) (sc := defScope sIsName) (by decide +kernel))
      (fun _ _ _ _ _ => pg_name (i := 1) scIsName.nd rfl (Or.inl rfl)) (fun _ _ _ _ _ => pts_nil) (fun _ _ _ _ _ => pe_chain op_leS op_leS pe_str (pv 1) pe_str)) pa_nil)))), ?_⟩
  have e1 : decide ((1 : Int) ≤ ((x.length : Nat) : Int)) = true := decide_eq_true (by omega)
  have e2 : decide (((x.length : Nat) : Int) ≤ (8 : Int)) = true := decide_eq_true (by omega)
  refine ⟨.str x, rfl, _, _, _, _, true, rfl, .ty _, .base (.str x), kit_ty (by decide +kernel), true, rfl, ?_⟩
  refine ⟨.str x, rfl, x, rfl, Nat.le_trans ln (by decide), _, _, rfl, rfl, _, rfl, ?_⟩
  rw [e1]
  refine iteT ⟨_, _, rfl, rfl, _, rfl, ?_⟩
  rw [e2]
  refine ⟨.str x, rfl, x, rfl, fun D hD => ?_⟩
  refine lc_vals (walk_str (z := x)) (fun _ => .bl true) (by have : x.cps.size ≤ 8 := ln; omega) hD (fun _ _ => trivial) ?_ ?_
  · rintro i v H2 H2' k hi s2 ⟨rfl, c, hc, rfl⟩ hk
    have lo := ok.2.2 c (by rw [← Array.getElem?_toList] at hc; exact List.mem_of_getElem? hc)
    refine ⟨rfl, _, rfl, _, _, rfl, rfl, _, rfl, ?_⟩
    rw [show (!decide ((⟨#[c]⟩ : Str).cps.toList < (("a" : Str)).cps.toList)) = true from letter_ge lo.1]
    refine iteT ⟨_, _, rfl, rfl, ?_⟩
    rw [show (!decide ((("z" : Str)).cps.toList < (⟨#[c]⟩ : Str).cps.toList)) = true from letter_le lo.2]
    exact hk H2' (Same.refl _)
  · intro H2 s2 d2
    rw [trues_all] at d2
    refine ⟨D, _, rfl, .inl (.inl d2), ?_⟩
    rw [show (List.replicate x.cps.size true).all id = true by simp]
    exact q H2 s2
abbrev sIsRow : Stmt := topS 9
abbrev nIsRow : List Str := ["thing", "who"]
theorem scIsRow : FnScope nIsRow ["thing"] (defScope sIsRow) := ⟨rfl, rfl, rfl, by decide +kernel, rfl, by decide +kernel, by decide +kernel⟩
theorem ok_isRow {f : Addr} {fd : FuncData} (B : Blt mg) (CN : Cal P w K mg base 1 "is_name" ["thing"] spIsName) (F : Fun K "is_row" "is_row" sIsRow f fd) : FnOk P w K mg base CX0 2 f fd ["thing"] spIsRow := by
  refine fok F scIsRow (fun vs H Q E h => ?_) (fun cdv A outer s H vs Q E hr h => ?_)
  · obtain ⟨t, xs, rfl, _⟩ := h
    rfl
  obtain ⟨t, xs, rfl, ht, ok, nd, hn, q⟩ := h
  refine ⟨_, pss_cons (ps_if (PW.pt (pw_or (pt_not (pt_val (pe_callB call_isi (by rfl) B.isinstance (by decide +kernel) (pa_cons (pv 0) (pa_cons (pe_bltn (v := .ty "tuple") (by rfl) B.tuple (by decide +kernel) rfl) pa_nil))))) (pw_or1 (pt_not (pt_val (pe_callB (cr_all rfl) (by rfl) B.all (by decide +kernel) (pa_cons (pe_lc (own := [("who", 1)]) (g := gName 1) (tt := tYes) (te := tCall spIsName [] E0 (tCons (tVar 1) tNil)) rfl scIsRow.nd (pi_tup (pv 0)) (blkOk_by (N := nIsRow) (sc := defScope sIsRow) (by decide +kernel))
        (fun _ _ _ _ _ => pg_name (i := 1) scIsRow.nd rfl (Or.inl rfl)) (fun _ _ _ _ _ => pts_nil) (fun _ _ _ _ _ => pe_cal CN hr (pa_cons (pv 1) pa_nil))) pa_nil))))))) (pss_one (ps_ret pe_bl)) pss_nil)
    (pss_one (ps_ret (pe_cmpR op_eq (pe_lenStrsT rfl (by rfl) B.len (by rfl) B.set (pv 0)) (pe_callB call_len_seq (by rfl) B.len PySem.boot_len (pa_cons (pv 0) pa_nil)) (nomark _)))), ?_⟩
  refine ⟨.ref t, rfl, _, _, _, _, true, rfl, .ty _, TupX.ty (.inr ht), kit_ty (by decide +kernel), true, rfl, ?_⟩
  refine ⟨.ref t, rfl, t, rfl, ⟨_, ht.sq⟩, fun D hD => ?_⟩
  refine lc_vals (walk_tup (xs := xs.map V.str)) (fun _ => .bl true) (by rw [List.length_map]; omega) hD (fun H' s => (ht.same s).sq) ?_ ?_
  · rintro i v H2 H2' k hi s2 ⟨rfl, ex⟩ hk
    obtain ⟨x, hx, rfl⟩ := at_map ex
    exact ⟨rfl, _, rfl, x, rfl, ok x (List.mem_of_getElem? hx), fun H4 s4 => hk H4 s4⟩
  · intro H2 s2 d2
    rw [trues_all] at d2
    refine ⟨D, _, rfl, .inl (.inl d2), true, by rw [show (List.replicate (xs.map V.str).length true).all id = true by simp], ?_⟩
    have t2 := ht.same s2
    refine ⟨.ref t, rfl, t, xs, rfl, t2, nd, hn, .ref t, rfl, t, _, rfl, .inr t2.sq, rfl, ?_⟩
    rw [List.length_map, decide_eq_true rfl]
    exact q H2 s2/-! ### reads_as_deed -/
abbrev sReads : Stmt := topS 38
abbrev nRds : List Str := ["thing"]
abbrev pRds : List Str := ["thing"]
theorem scRds : FnScope nRds pRds (defScope sReads) := ⟨rfl, rfl, rfl, by decide +kernel, rfl, by decide +kernel, by decide +kernel⟩
-- slots: 0:thing
theorem ok_rds {f : Addr} {fd : FuncData} (B : Blt mg) (CIn : Cal P w K mg base 1 "is_name" ["thing"] spIsName) (F : Fun K "reads_as_deed" "reads_as_deed" sReads f fd) : FnOk P w K mg base CX0 2 f fd pRds spReads := by
  refine fok F scRds (fun vs H Q E h => ?_) (fun cdv A outer s H vs Q E hr h => ?_)
  · obtain ⟨T, d, rfl, _⟩ := h
    rfl
  have hu := hu_of hr
  refine ⟨_, pss_cons (ps_if (pt_not (pt_val (pe_callB call_isiT (by rfl) B.isinstance (by decide +kernel) (pa_cons (pv 0) (pa_cons (pe_tup (pa_cons (pe_bltn (v := .ty "list") (by rfl) B.list (by decide +kernel) rfl) (pa_cons (pe_bltn (v := .ty "tuple") (by rfl) B.tuple (by decide +kernel) rfl) pa_nil))) pa_nil)))))
      (pss_one (ps_ret pe_bl))
      pss_nil)
    (pss_cons (ps_if (pt_cmpR op_eq (pe_callB call_len_seq (by rfl) B.len PySem.boot_len (pa_cons (pv 0) pa_nil)) pe_int (nomark _))
      (pss_one (ps_ret (pe_cmpR op_eq (pe_ix ix_tup (pv 0) pe_int (fun _ _ => rfl)) pe_str (nomark _))))
      pss_nil)
    (pss_one (ps_ret (pe_and (pe_cmpR op_eq (pe_callB call_len_seq (by rfl) B.len PySem.boot_len (pa_cons (pv 0) pa_nil)) pe_int (nomark _)) (pe_and (pe_cmpR op_eq (pe_ix ix_tup (pv 0) pe_int (fun _ _ => rfl)) pe_str (nomark _)) (pe_one (pe_cal CIn hr (pa_cons (pe_ix ix_tup (pv 0) pe_int (fun _ _ => rfl)) pa_nil)))))))), ?_⟩
  obtain ⟨T, d, rfl, ht, nm, q⟩ := h
  have ty : ∀ {H' : Hp}, Same H H' → TyX K H' (.ref T) (.type "tuple") := fun s => (show TupX _ T _ from .inr (ht.same s)).ty
  refine ⟨_, rfl, (by show 2 ≤ sizeLine; decide), fun p hp => ?_⟩
  have s1 := same_upd (o := .tup [.ty "list", .ty "tuple"]) hp
  refine ⟨_, p, _, _, _, true, rfl, upd_same, .cons (.ty _) (.cons (.ty _) .nil), ty s1, kitAny_cons (b := false) (kit_ty (by decide +kernel)) (fun _ => kitAny_cons (b := true) (kit_ty (by decide +kernel)) (fun z => nomatch z) (fun _ => rfl)) (fun z => nomatch z), _, rfl, ?_⟩
  have h1 := ht.same s1
  cases d with
  | none =>
    have h2 : TupAt (upd H p (.tup [.ty "list", .ty "tuple"])) T [.str "serve"] := h1
    refine ⟨_, rfl, T, _, rfl, .inr h2.sq, rfl, _, rfl, ite2 (fun _ => ?_) (fun c => absurd (decide_eq_true rfl) c)⟩
    refine ⟨_, rfl, T, _, 0, _, rfl, rfl, h2.sq, atI_nat (j := 0) rfl, rfl, ?_⟩
    rw [decide_eq_true rfl]
    exact q _ s1
  | some x =>
    have h2 : TupAt (upd H p (.tup [.ty "list", .ty "tuple"])) T [.str "come", .str x] := h1
    refine ⟨_, rfl, T, _, rfl, .inr h2.sq, rfl, _, rfl, ite2 (fun c => absurd c (by show ¬ decide (V.int 2 = V.int 1) = true; decide)) (fun _ => ?_)⟩
    refine ⟨_, rfl, T, _, rfl, .inr h2.sq, rfl, _, rfl, ite2 (fun _ => ?_) (fun c => absurd (decide_eq_true rfl) c)⟩
    refine ⟨_, rfl, T, _, 0, _, rfl, rfl, h2.sq, atI_nat (j := 0) rfl, rfl, _, rfl, ite2 (fun _ => ?_) (fun c => absurd (decide_eq_true rfl) c)⟩
    exact ⟨_, rfl, T, _, 1, _, rfl, rfl, h2.sq, atI_nat (j := 1) rfl, x, rfl, nm x rfl, fun H' s => q H' (s1.trans s)⟩
/-! ### can_be_done -/
abbrev sCanBe : Stmt := topS 39
abbrev nCbd : List Str := ["deed", "row", "been"]
abbrev pCbd : List Str := ["deed", "row", "been"]
theorem scCbd : FnScope nCbd pCbd (defScope sCanBe) := ⟨rfl, rfl, rfl, by decide +kernel, rfl, by decide +kernel, by decide +kernel⟩
-- slots: 0:deed 1:row 2:been
theorem ok_cbd {f : Addr} {fd : FuncData} (B : Blt mg)  (F : Fun K "can_be_done" "can_be_done" sCanBe f fd) : FnOk P w K mg base CX0 1 f fd pCbd spCanBe := by
  refine fok F scCbd (fun vs H Q E h => ?_) (fun cdv A outer s H vs Q E hr h => ?_)
  · obtain ⟨T, h, d, dd, row, met, rfl, _⟩ := h
    rfl
  have hu := hu_of hr
  refine ⟨_, pss_cons (ps_if (pt_cmpR op_eq (pe_ix ix_tup (pv 0) pe_int (fun _ _ => rfl)) pe_str (nomark _))
      (pss_one (ps_ret (pe_cmpR op_gt (pe_callB call_len_seq (by rfl) B.len PySem.boot_len (pa_cons (pv 1) pa_nil)) pe_int (nomark _))))
      pss_nil)
    (pss_one (ps_ret (pe_cmp (pc_dnotin hu (pe_ix ix_tup (pv 0) pe_int (fun _ _ => rfl)) (pv 2)) rfl))), ?_⟩
  obtain ⟨T, h, d, dd, row, met, rfl, ht, hh, hd, nx, ne, q⟩ := h
  cases dd with
  | none =>
    have h2 : TupAt H T [.str "serve"] := ht
    refine ⟨_, rfl, T, _, 0, _, rfl, rfl, h2.sq, atI_nat (j := 0) rfl, rfl, _, rfl, ite2 (fun _ => ?_) (fun c => absurd (decide_eq_true rfl) c)⟩
    refine ⟨_, rfl, h, _, rfl, .inr hh.sq, _, _, rfl, rfl, ?_⟩
    show Q (.bl (decide ((0 : Int) < (((row.map V.str).length : Nat) : Int)))) _
    have := List.length_pos_iff.mpr (ne rfl)
    rw [List.length_map, decide_eq_true (by omega)]
    exact q H (Same.refl H)
  | some x =>
    have h2 : TupAt H T [.str "come", .str x] := ht
    refine ⟨_, rfl, T, _, 0, _, rfl, rfl, h2.sq, atI_nat (j := 0) rfl, rfl, _, rfl, ite2 (fun c => absurd c (by decide)) (fun _ => ?_)⟩
    obtain ⟨kvs, k1, k2, k3⟩ := hd
    refine ⟨_, rfl, T, _, 1, _, rfl, rfl, h2.sq, atI_nat (j := 1) rfl, _, rfl, d, _, rfl, DGet.k (k := .inr x) k1, ?_⟩
    rw [k3 x, decide_eq_false (nx x rfl)]
    exact q H (Same.refl H)
/-! ### done -/
abbrev sDone : Stmt := topS 40
abbrev nDn : List Str := ["friends", "deeds", "row", "served", "here", "been", "who", "number", "deed"]
abbrev pDn : List Str := ["friends", "deeds", "row"]
theorem scDn : FnScope nDn pDn (defScope sDone) := ⟨rfl, rfl, rfl, by decide +kernel, rfl, by decide +kernel, by decide +kernel⟩
-- slots: 0:friends 1:deeds 2:row 3:served 4:here 5:been 6:who 7:number 8:deed
theorem ok_dn {f : Addr} {fd : FuncData} (B : Blt mg) (CCbd : Cal P w K mg base 1 "can_be_done" ["deed", "row", "been"] spCanBe) (CLe : Cal P w K mg base 5 "let_in" ["friends", "row", "who"] spLetIn) (CRds : Cal P w K mg base 2 "reads_as_deed" ["thing"] spReads) (F : Fun K "done" "done" sDone f fd) : FnOk P w K mg base CX0 6 f fd pDn spDone := by
  refine fok F scDn (fun vs H Q E h => ?_) (fun cdv A outer s H vs Q E hr h => ?_)
  · obtain ⟨a, p, e, ps, olds, st, gn, ds, rfl, _⟩ := h
    rfl
  have hu := hu_of hr
  refine ⟨_, pss_cons (ps_set (i := 3) scDn.nd rfl (.inl rfl) (pe_tupF pa_nil))
    (pss_cons (ps_set (i := 4) scDn.nd rfl (.inl rfl) (pe_callTy call_tupRow (by rfl) B.tuple (by decide +kernel) (pa_cons (pv 2) pa_nil)))
    (pss_cons (ps_setDc (i := 5) (own := [("who", 6)]) (g := gName 6) (tt := tYes) (tk := tVar 6) (tv := tC (.bl true)) rfl scDn.nd rfl rfl (by rfl) (pi_tup (pv 4)) (blkOk_by (N := nDn) (sc := defScope sDone) (by decide +kernel)) (fun _ _ _ _ _ => pg_name (i := 6) scDn.nd rfl (Or.inl rfl)) (fun _ _ _ _ _ => pts_nil) (fun _ _ _ _ _ => pv 6) (fun _ _ _ _ _ => pe_bl))
    (pss_cons (ps_for PassesOwn.never rfl (pi_enum (by rfl) B.enumerate (pa_cons (pv 1) pa_nil)) (pg_tup rfl (pgs_cons (pg_name (i := 7) scDn.nd rfl (.inl rfl)) (pgs_cons (pg_name (i := 8) scDn.nd rfl (.inl rfl)) pgs_nil)))
      (pss_cons (ps_if (PW.pt (pw_or (pt_not (pt_val (pe_cal CRds hr (pa_cons (pv 8) pa_nil)))) (pw_or1 (pt_not (pt_val (pe_cal CCbd hr (pa_cons (pv 8) (pa_cons (pv 4) (pa_cons (pv 5) pa_nil)))))))))
          (pss_one ps_never)
          pss_nil)
        (pss_one (ps_if (pt_cmpR op_eq (pe_ix ix_tup (pv 8) pe_int (fun _ _ => rfl)) pe_str (nomark _))
          (pss_cons (ps_set (i := 3) scDn.nd rfl (.inl rfl) (pe_op op_catM (pv 3) (pe_slice sl_tupM (pv 4) po_none (po_some pe_int))))
            (pss_one (ps_set (i := 4) scDn.nd rfl (.inl rfl) (pe_slice sl_tupM (pv 4) (po_some pe_int) po_none))))
          (pss_cons (ps_set (i := 4) scDn.nd rfl (.inl rfl) (pe_cal CLe hr (pa_cons (pv 0) (pa_cons (pv 4) (pa_cons (pe_ix ix_tup (pv 8) pe_int (fun _ _ => rfl)) pa_nil)))))
            (pss_one (ps_dput hu (pv 5) (pe_ix ix_tup (pv 8) pe_int (fun _ _ => rfl)) pe_bl rfl)))))))
    (pss_one (ps_ret (pe_tupF (pa_cons (pv 3) (pa_cons (pv 4) pa_nil)))))))), ?_⟩
  obtain ⟨a, p, e, ps, olds, st, gn, ds, rfl, ha, hp, hl, hd, nm, he, ln, go, q⟩ := h
  have lo : olds.length ≤ 90 := by omega
  refine ⟨(by show 0 ≤ sizeLine; decide), fun sv0 H1 s1 n1 e1 => ?_⟩
  refine ⟨.ref e, rfl, e, olds, rfl, he.same s1, fun t0 H2 s2 e2 => ?_⟩
  have s02 := s1.trans s2
  refine ⟨.ref t0, rfl, t0, rfl, ⟨_, e2.sq⟩, fun D hD => ?_⟩
  have hD0 : H D = none := s02.free hD
  refine dc_it (walk_tup (xs := olds.map V.str)) (fun i H' => ∃ kvs, Same H2 H' ∧ H' D = some (.dK kvs) ∧ kvs.length ≤ i ∧ ∀ y, (valV kvs (.inr y)).isSome = decide (y ∈ olds.take i)) ?_ ?_ ?_ ?_
  · exact ⟨[], same_upd hD, upd_same, Nat.le_refl _, fun y => by simp [valV]⟩
  · rintro i H' _ ⟨kvs, s3, _⟩
    exact (e2.same s3).sq
  · rintro i v H3' H3 hi ⟨kvs, s3, d3, l3, v3⟩ ⟨rfl, ev⟩
    obtain ⟨z, hz, rfl⟩ := at_map ev
    rw [List.length_map] at hi
    refine ⟨rfl, _, rfl, kvs, .inr z, rfl, d3, small1000 (by omega), putK kvs (.inr z) (.bl true), fun b o w => ?_, upd_same, ?_, fun y => ?_⟩
    · rw [upd_ne (ne_of_none w hD)]
      exact s3 _ _ w
    · have := putK_lenK (kvs := kvs) (k := .inr z) (v := V.bl true)
      omega
    · rw [valV_put, List.take_add_one, hz]
      by_cases c : y = z
      · subst c
        rw [if_pos rfl]
        simp
      · rw [if_neg (fun w => c (Sum.inr.inj w)), v3]
        simp [c]
  rintro H3 ⟨kvs, s3, d3, l3, v3⟩
  rw [List.length_map] at l3 v3
  rw [List.take_of_length_le (Nat.le_refl _)] at v3
  have s03 := s02.trans s3
  have rl : (refsD ds).length = ds.length := by unfold refsD; rw [List.length_map]
  refine ⟨_, rfl, p, _, rfl, .inl (.inl (s03 _ _ hl)), ?_⟩
  refine for_it (walk_enum (xs := refsD ds)) (fun i σ H' => ∃ (sv t : Addr) (st' gn' : List Str) (y6 y7 y8 : Option V), σ = [some (.ref a), some (.ref p), some (.ref e), some (.ref sv), some (.ref t), some (.ref D), y6, y7, y8] ∧ Same H H' ∧ TupAt H' sv (gn'.map V.str) ∧ TupAt H' t (st'.map V.str) ∧ BeenAt H' D (olds ++ comers ((ds.take i).map (·.2))) ∧ goD ps ((ds.take i).map (·.2)) (olds, []) olds = some (st', gn')) ?_ ?_ ?_ ?_
  · exact ⟨sv0, t0, olds, [], _, _, _, rfl, s03, (e1.same s2).same s3, e2.same s3, ⟨kvs, d3, by rw [List.length_append]; omega, fun y => by rw [v3]; simp [comers]⟩, rfl⟩
  · rintro i σ H' _ ⟨_, _, _, _, _, _, _, _, s, _⟩
    exact .inl (.inl (s _ _ hl))
  · rintro i v σ H4 H5 hi ⟨sv, t, st', gn', y6, y7, y8, rfl, s4, hsv, ht, hb, go'⟩ ⟨T, u1, u2, rfl, nT, rfl, ex1, ex2⟩
    cases ex1
    obtain ⟨q1, hq, rfl⟩ := at_map ex2
    have mq := List.mem_of_getElem? hq
    have sT := same_upd (o := .tup [.int (i : Nat), .ref q1.1]) nT
    have s5 := s4.trans sT
    have dq := (hd q1 mq).same s5
    have tk : (ds.take (i + 1)).map (·.2) = (ds.take i).map (·.2) ++ [q1.2] := by rw [List.take_add_one, hq, List.map_append]; rfl
    obtain ⟨s2', g1, g2⟩ := goD_pre (ps := ps) ((ds.take (i + 1)).map (·.2)) ((ds.drop (i + 1)).map (·.2)) (s := (olds, [])) (met := olds) (s' := (st, gn)) (by rw [← List.map_append, List.take_append_drop]; exact go)
    have g1' := g1
    rw [tk, goD_snoc, go'] at g1'
    have pm' : (gn' ++ st').Perm (comers ((ds.take i).map (·.2)) ++ olds) := by simpa using go_perm _ _ _ _ go'
    have lens : gn'.length + st'.length ≤ 90 := by
      have h1 := pm'.length_eq
      rw [List.length_append, List.length_append] at h1
      have h2 : (comers ((ds.take i).map (·.2))).length ≤ ds.length := by
        unfold comers
        refine Nat.le_trans (List.length_filterMap_le _ _) ?_
        rw [List.length_map]
        exact List.length_take_le' _ _
      omega
    refine ⟨T, _, rfl, .inl (.inl upd_same), rfl, _, _, rfl, _, _, rfl, rfl, ?_⟩
    refine ⟨_, rfl, q1.1, q1.2, rfl, dq, (fun x hx => nm q1 mq x hx), fun H6 s6 => ⟨_, rfl, ?_⟩⟩
    have s56 := s5.trans s6
    have sT6 := sT.trans s6
    refine ⟨_, rfl, _, rfl, _, rfl, q1.1, t, D, q1.2, st', olds ++ comers ((ds.take i).map (·.2)), rfl, dq.same s6, ht.same sT6, hb.same sT6, (fun x hx z => ?_), (fun hn z => ?_), fun H7 s7 => ⟨_, rfl, ?_⟩⟩
    · rw [hx] at g1'
      have : (if x ∈ olds ++ comers ((ds.take i).map (·.2)) then none else some (comeTo ps st' x, gn')) = some s2' := g1'
      rw [if_pos z] at this
      cases this
    · rw [hn] at g1'
      have : (if st' = [] then none else some (st'.drop 1, gn' ++ st'.take 1)) = some s2' := g1'
      rw [if_pos z] at this
      cases this
    have sT7 := sT6.trans s7
    have s57 := s56.trans s7
    have dq7 := (dq.same s6).same s7
    cases e2d : q1.2 with
    | none =>
      rw [e2d] at dq7 g1' tk
      have h2 : TupAt H7 q1.1 [.str "serve"] := dq7
      have g3 : (if st' = [] then none else some (st'.drop 1, gn' ++ st'.take 1)) = some s2' := g1'
      by_cases c : st' = []
      · rw [if_pos c] at g3
        cases g3
      rw [if_neg c] at g3
      have e3 := Option.some.inj g3
      refine ⟨_, rfl, q1.1, _, 0, _, rfl, rfl, h2.sq, atI_nat (j := 0) rfl, rfl, _, rfl, ite2 (fun _ => ?_) (fun c => absurd (decide_eq_true rfl) c)⟩
      refine ⟨_, rfl, _, rfl, _, rfl, t, _, rfl, ht.same sT7, fun t1 H8 s8 e8 => ?_⟩
      rw [show (1 : Int) = ((1 : Nat) : Int) from rfl, cutV_map, cutL_to] at e8
      refine ⟨sv, t1, _, _, rfl, rfl, (hsv.same sT7).same s8, e8, ?_, fun t2 H9 s9 e9 => ?_⟩
      · rw [List.length_map, List.length_map, List.length_take]
        exact small_le (by omega)
      rw [← List.map_append] at e9
      have s79 := s8.trans s9
      refine ⟨_, rfl, _, rfl, t, _, rfl, (ht.same sT7).same s79, fun t3 H10 s10 e10 => ?_⟩
      rw [show (1 : Int) = ((1 : Nat) : Int) from rfl, cutV_map, cutL_from] at e10
      refine ⟨t2, t3, st'.drop 1, gn' ++ st'.take 1, _, _, _, rfl, (s57.trans s79).trans s10, e9.same s10, e10, ?_, ?_⟩
      · rw [tk, comers_snoc]
        have := hb.same ((sT7.trans s79).trans s10)
        simpa using this
      · rw [g1, ← e3]
    | some x =>
      rw [e2d] at dq7 g1' tk
      have h2 : TupAt H7 q1.1 [.str "come", .str x] := dq7
      have g3 : (if x ∈ olds ++ comers ((ds.take i).map (·.2)) then none else some (comeTo ps st' x, gn')) = some s2' := g1'
      by_cases c : x ∈ olds ++ comers ((ds.take i).map (·.2))
      · rw [if_pos c] at g3
        cases g3
      rw [if_neg c] at g3
      have e3 := Option.some.inj g3
      have nx : x ∉ st' := fun z => c (by
        rcases List.mem_append.mp (pm'.mem_iff.mp (List.mem_append_right _ z)) with u | u
        · exact List.mem_append_right _ u
        · exact List.mem_append_left _ u)
      refine ⟨_, rfl, q1.1, _, 0, _, rfl, rfl, h2.sq, atI_nat (j := 0) rfl, rfl, _, rfl, ite2 (fun c => absurd c (by decide)) (fun _ => ?_)⟩
      refine ⟨_, rfl, _, rfl, _, rfl, q1.1, _, 1, _, rfl, rfl, h2.sq, atI_nat (j := 1) rfl, a, t, ps, st', x, rfl, ha.same s57, hp, .inl (ht.same sT7), by omega, nx, fun t1 H8 s8 e8 => ?_⟩
      obtain ⟨kvs', k1, k2, k3⟩ := (hb.same sT7).same s8
      have h28 := h2.same s8
      have lmet : (olds ++ comers ((ds.take i).map (·.2))).length ≤ 90 := by
        have h1 := pm'.length_eq
        rw [List.length_append, List.length_append] at h1
        rw [List.length_append]
        omega
      refine ⟨_, rfl, _, rfl, q1.1, _, 1, _, rfl, rfl, h28.sq, atI_nat (j := 1) rfl, D, _, rfl, DPut.k (k := .inr x) k1 (small9 (by omega)), ?_⟩
      refine ⟨sv, t1, comeTo ps st' x, gn', _, _, _, rfl, fun b o w => ?_, ((hsv.same sT7).same s8).updK k1, e8.updK k1, ⟨_, upd_same, ?_, fun y => ?_⟩, ?_⟩
      · rw [upd_ne (ne_of_none w hD0)]
        exact s8 _ _ (s57 _ _ w)
      · have := putK_lenK (kvs := kvs') (k := .inr x) (v := V.bl true)
        rw [tk, comers_snoc, ← List.append_assoc, List.length_append (as := olds ++ comers ((ds.take i).map (·.2)))]
        show _ ≤ _ + 1
        omega
      · rw [valV_put, tk, comers_snoc, ← List.append_assoc]
        by_cases cy : y = x
        · subst cy
          rw [if_pos rfl]
          simp
        · rw [if_neg (fun w => cy (Sum.inr.inj w)), k3]
          refine decide_eq_decide.mpr ⟨fun z => List.mem_append_left _ z, fun z => ?_⟩
          rcases List.mem_append.mp z with u | u
          · exact u
          · have : y ∈ [x] := u
            exact absurd (List.mem_singleton.mp this) cy
      · rw [g1, ← e3]
  · rintro σ H5 ⟨sv, t, st', gn', y6, y7, y8, rfl, s5, hsv, ht, hb, go'⟩
    rw [rl, List.take_of_length_le (Nat.le_refl _), go] at go'
    have e5 := Option.some.inj go'
    have e6 : st = st' := congrArg Prod.fst e5
    have e7 : gn = gn' := congrArg Prod.snd e5
    subst e6 e7
    exact ⟨_, rfl, _, rfl, (by show 2 ≤ sizeLine; decide), fun T H6 s6 n6 e6 => q T sv t H6 (s5.trans s6) e6 (hsv.same s6) (ht.same s6)⟩
theorem cal_done {f D E : Addr} {oc : Value} {od an ed : Option Addr} {osl es : Array (Option Value)} {doc pm cdv ct : Value} {en : Nat}
    (l : K.lookup f = some ⟨oc, od, .func (PySem.W.fnOf "done" "done" (defArgs sDone) (defBody sDone) (defScope sDone) .none (.ref D) doc pm an cdv ct), osl⟩) (c : PySem.W.codeIn K cdv "done" = true) (kp : PySem.W.keepIn K (.ref f) = true) (n : PySem.W.nsIn K D "row" = some (some (.ref E)))
    (e : K.lookup E = some ⟨.type "tuple", ed, .seq #[] en, es⟩) (hm : mg "done" = some (.ref f)) (B : Blt mg) (CR : Cal P w K mg base 2 "reads_as_deed" ["thing"] spReads) (CC : Cal P w K mg base 1 "can_be_done" ["deed", "row", "been"] spCanBe) (CL : Cal P w K mg base 5 "let_in" ["friends", "row", "who"] spLetIn) : CalK P w K mg base 6 "done" ["friends", "deeds", "row"] 2 "row" spDone E :=
  calk_mk l c kp n e hm (ok_dn B CC CL CR (fun_mk l c kp)) rfl (fun _ _ _ _ _ _ us ws h1 h2 => match us, ws, h1, h2 with | [_, _], [_], _, _ => rfl)
    (fun _ _ _ _ _ _ us ks h1 h2 => match us, ks, h1, h2 with | [_, _], [_], _, _ => ⟨_, _, _, _, _, _, rfl, rfl, rfl⟩)
/-! ### shows_history -/
abbrev sShowsH : Stmt := topS 42
abbrev nShH : List Str := ["friends", "served", "row", "thing", "elders", "deed"]
abbrev pShH : List Str := ["friends", "served", "row", "thing", "elders"]
theorem scShH : FnScope nShH pShH (defScope sShowsH) := ⟨rfl, rfl, rfl, by decide +kernel, rfl, by decide +kernel, by decide +kernel⟩
-- slots: 0:friends 1:served 2:row 3:thing 4:elders 5:deed
theorem ok_shH {f : Addr} {fd : FuncData} (B : Blt mg) {E1 : Addr} (CDn : CalK P w K mg base 6 "done" ["friends", "deeds", "row"] 2 "row" spDone E1) (F : Fun K "shows_history" "shows_history" sShowsH f fd) : FnOk P w K mg base CX0 7 f fd pShH spShowsH := by
  refine fok F scShH (fun vs H Q E h => ?_) (fun cdv A outer s H vs Q E hr h => ?_)
  · obtain ⟨a, sv, r, p, e, ps, olds, gn, st, ds, rfl, _⟩ := h
    rfl
  have hu := hu_of hr
  refine ⟨_, pss_cons (ps_if (PW.pt (pw_or (pt_not (pt_val (pe_callB call_isi (by rfl) B.isinstance (by decide +kernel) (pa_cons (pv 3) (pa_cons (pe_bltn (v := .ty "list") (by rfl) B.list (by decide +kernel) rfl) pa_nil))))) (pw_or1 (pt_not (pt_val (pe_callB (cr_all rfl) (by rfl) B.all (by decide +kernel) (pa_cons (pe_lc (own := [("deed", 5)]) (g := gName 5) (tt := tYes) (te := tCB (rIsi K) (tCons (tVar 5) (tCons (tC (.ty "tuple")) tNil))) rfl scShH.nd (pi_list (pv 3)) (blkOk_by (N := nShH) (sc := defScope sShowsH) (by decide +kernel)) (fun _ _ _ _ _ => pg_name (i := 5) scShH.nd rfl (Or.inl rfl)) (fun _ _ _ _ _ => pts_nil) (fun _ _ _ _ _ => pe_callB call_isi (by rfl) B.isinstance (by decide +kernel) (pa_cons (pv 5) (pa_cons (pe_bltn (v := .ty "tuple") (by rfl) B.tuple (by decide +kernel) rfl) pa_nil)))) pa_nil)))))))
      (pss_one (ps_ret pe_bl))
      pss_nil)
    (pss_one (ps_try_thru0 (pss_one (ps_ret (pe_cmpR (op_eqD hr.units) (pe_calk CDn hr (pa_cons (pv 0) (pa_cons (pv 3) pa_nil)) (pk_cons (pv 4) pk_nil)) (pe_tupF (pa_cons (pe_callTy call_tupRow (by rfl) B.tuple (by decide +kernel) (pa_cons (pv 1) pa_nil)) (pa_cons (pe_callTy call_tupRow (by rfl) B.tuple (by decide +kernel) (pa_cons (pv 2) pa_nil)) pa_nil))) (nomark _)))))), ?_⟩
  obtain ⟨a, sv, r, p, e, ps, olds, gn, st, ds, rfl, ha, hpl, hsv, hrw, hp, hd, nm, he, ln, gl, go, q⟩ := h
  refine ⟨_, rfl, _, _, _, _, true, rfl, .ty _, .base (.lst hp), kit_ty (by decide +kernel), _, rfl, ?_⟩
  refine ⟨_, rfl, p, rfl, ⟨_, .inl (.inl hp)⟩, fun D hD => ?_⟩
  have rl : (refsD ds).length = ds.length := by unfold refsD; rw [List.length_map]
  refine lc_vals (walk_list (xs := refsD ds)) (fun _ => .bl true) (by rw [rl]; omega) hD (fun H' s => .inl (.inl (s _ _ hp))) ?_ ?_
  · rintro j v H1 H1' kk hj s1 ⟨rfl, ex⟩ k1
    obtain ⟨q1, hq, rfl⟩ := at_map ex
    exact ⟨rfl, _, rfl, _, _, _, _, true, rfl, .ty _, (show TupX _ q1.1 _ from .inr ((hd q1 (List.mem_of_getElem? hq)).same s1)).ty, kit_ty (by decide +kernel), k1 _ (Same.refl _)⟩
  intro H1 s1 e1
  rw [trues_all] at e1
  refine ⟨D, _, rfl, .inl (.inl e1), ?_⟩
  rw [show (List.replicate (refsD ds).length true).all id = true by simp]
  refine ⟨_, rfl, ?_⟩
  refine ⟨_, rfl, _, rfl, _, rfl, rfl, rfl, a, p, e, ps, olds, st, gn, ds, rfl, ha.same s1, hpl, s1 _ _ hp, hd.same s1, nm, he.same s1, ln, go, fun T g' t' H2 s2 eT eg et => ?_⟩
  have s02 := s1.trans s2
  refine ⟨_, rfl, sv, gn, rfl, hsv.same s02, fun t3 H3 s3 e3 => ?_⟩
  have s03 := s02.trans s3
  refine ⟨_, rfl, r, st, rfl, hrw.same s03, fun t4 H4 s4 e4 => ?_⟩
  refine ⟨(by show 2 ≤ sizeLine; decide), fun T5 H5 s5 n5 e5 => ?_⟩
  have s25 := (s3.trans s4).trans s5
  refine ⟨_, _, dp_two (eT.same s25).sq (eg.same s25).sq (et.same s25).sq, dp_two e5.sq ((e3.same s4).same s5).sq (e4.same s5).sq, sh_two (fun x hx => gl x (List.mem_append_left _ hx)) (fun x hx => gl x (List.mem_append_right _ hx)), sh_two (fun x hx => gl x (List.mem_append_left _ hx)) (fun x hx => gl x (List.mem_append_right _ hx)), ?_⟩
  rw [eqv_two, decide_eq_true rfl, decide_eq_true rfl]
  exact q _ (s02.trans s25)
theorem cal_showsH {f D E E1 : Addr} {oc : Value} {od an ed : Option Addr} {osl es : Array (Option Value)} {doc pm cdv ct : Value} {en : Nat}
    (l : K.lookup f = some ⟨oc, od, .func (PySem.W.fnOf "shows_history" "shows_history" (defArgs sShowsH) (defBody sShowsH) (defScope sShowsH) .none (.ref D) doc pm an cdv ct), osl⟩) (c : PySem.W.codeIn K cdv "shows_history" = true) (kp : PySem.W.keepIn K (.ref f) = true) (n : PySem.W.nsIn K D "elders" = some (some (.ref E)))
    (e : K.lookup E = some ⟨.type "tuple", ed, .seq #[] en, es⟩) (hm : mg "shows_history" = some (.ref f)) (B : Blt mg) (CD : CalK P w K mg base 6 "done" ["friends", "deeds", "row"] 2 "row" spDone E1) : CalK P w K mg base 7 "shows_history" ["friends", "served", "row", "thing", "elders"] 4 "elders" spShowsH E :=
  calk_mk l c kp n e hm (ok_shH B CD (fun_mk l c kp)) rfl (fun _ _ _ _ _ _ us ws h1 h2 => match us, ws, h1, h2 with | [_, _, _, _], [_], _, _ => rfl)
    (fun _ _ _ _ _ _ us ks h1 h2 => match us, ks, h1, h2 with | [_, _, _, _], [_], _, _ => ⟨_, _, _, _, _, _, rfl, rfl, rfl⟩)
/-! ### is_clause, bars_who, shows_never, of right papers -/
abbrev sIcl : Stmt := topS 43
abbrev nIcl : List Str := ["thing"]
abbrev pIcl : List Str := ["thing"]
theorem scIcl : FnScope nIcl pIcl (defScope sIcl) := ⟨rfl, rfl, rfl, by decide +kernel, rfl, by decide +kernel, by decide +kernel⟩
theorem ok_clT {f : Addr} {fd : FuncData} (B : Blt mg) (CIn : Cal P w K mg base 1 "is_name" ["thing"] spIsName) (CRw : Cal P w K mg base 2 "is_row" ["thing"] spIsRow) (F : Fun K "is_clause" "is_clause" sIcl f fd) : FnOk P w K mg base CX0 3 f fd pIcl spClT := by
  refine fok F scIcl (fun vs H Q E h => ?_) (fun cdv A outer s H vs Q E hr h => ?_)
  · obtain ⟨q1, rfl, _⟩ := h
    rfl
  have hu := hu_of hr
  refine ⟨_, pss_cons (ps_if (PW.pt (pw_or (pt_not (pt_val (pe_callB call_isi (by rfl) B.isinstance (by decide +kernel) (pa_cons (pv 0) (pa_cons (pe_bltn (v := .ty "tuple") (by rfl) B.tuple (by decide +kernel) rfl) pa_nil))))) (pw_or1 (pt_cmpR op_ne (pe_callB call_len_seq (by rfl) B.len PySem.boot_len (pa_cons (pv 0) pa_nil)) pe_int (nomark _)))))
      (pss_one (ps_ret pe_bl))
      pss_nil)
    (pss_one (ps_ret (pe_and (pe_cal CIn hr (pa_cons (pe_ix ix_tup (pv 0) pe_int (fun _ _ => rfl)) pa_nil)) (pe_one (pe_cal CRw hr (pa_cons (pe_ix ix_tup (pv 0) pe_int (fun _ _ => rfl)) pa_nil)))))), ?_⟩
  obtain ⟨q1, rfl, ⟨h1, h2⟩, okx, oko, nd, ln, q⟩ := h
  refine ⟨_, rfl, _, _, _, _, true, rfl, .ty _, (show TupX _ _ _ from .inr h1).ty, kit_ty (by decide +kernel), true, rfl, ?_⟩
  refine ⟨_, rfl, q1.1, _, rfl, .inr h1.sq, rfl, false, rfl, ?_⟩
  refine ⟨_, rfl, q1.1, _, 0, _, rfl, rfl, h1.sq, atI_nat (j := 0) rfl, _, rfl, okx, fun H1 s1 => ⟨true, rfl, ?_⟩⟩
  exact ⟨_, rfl, q1.1, _, 2, _, rfl, rfl, (h1.same s1).sq, atI_nat (j := 2) rfl, q1.2.1, _, rfl, h2.same s1, oko, nd, ln, fun H2 s2 => q H2 (s1.trans s2)⟩
abbrev sBarsWho : Stmt := topS 44
abbrev nBwho : List Str := ["known", "line", "many", "who", "word", "places", "place", "host", "behind", "there", "wanted"]
abbrev pBwho : List Str := ["known", "line", "many", "who", "word", "places"]
theorem scBwho : FnScope nBwho pBwho (defScope sBarsWho) := ⟨rfl, rfl, rfl, by decide +kernel, rfl, by decide +kernel, by decide +kernel⟩
-- slots: 0:known 1:line 2:many 3:who 4:word 5:places 6:place* 7:host 8:behind 9:there 10:wanted
theorem ok_bwho {f : Addr} {fd : FuncData} (B : Blt mg) (CL : Cal P w K mg base 1 "last_friend_place" ["known", "row", "who"] spLfp) (F : Fun K "bars_who" "bars_who" sBarsWho f fd) : FnOk P w K mg base CX0 2 f fd pBwho spBwho := by
  refine fok F scBwho (fun vs H Q E h => ?_) (fun cdv A outer s H vs Q E hr h => ?_)
  · obtain ⟨d, t, p, ps, line, x, wd, os, many, rfl, _⟩ := h
    rfl
  have hu := hu_of hr
  refine ⟨_, pss_cons (ps_set (i := 6) scBwho.nd rfl (.inr rfl) (pe_bmT PySem.F.slot_tuple_index PySem.F.type_tuple_index mt_tup_index (pv 1) (pa_cons (pv 3) pa_nil)))
    (pss_cons (ps_set (i := 7) scBwho.nd rfl (.inl rfl) (pe_cal CL hr (pa_cons (pv 0) (pa_cons (pe_slice sl_tupM (pv 1) po_none (po_some (pv 6))) (pa_cons (pv 3) pa_nil)))))
    (pss_cons (ps_setLc (i := 8) (own := [("there", 9)]) (g := gName 9) (tt := tTest (tOp (rI0 fun i j => .bl (decide (j < i))) (tVar 9) (tVar 6))) (te := tVar 9) rfl scBwho.nd rfl rfl (sw_true rfl rfl rfl (by decide +kernel)) (pi_list (pv 5)) (blkOk_by (N := nBwho) (sc := defScope sBarsWho) (by decide +kernel)) (fun _ _ _ _ _ => pg_name (i := 9) scBwho.nd rfl (Or.inl rfl)) (fun _ _ _ _ _ => pts_one (pt_cmpR op_gt (pv 9) (pv 6) (nomark _))) (fun _ _ _ _ _ => pv 9))
    (pss_cons (ps_if (pt_cmpR op_eq (pv 4) pe_str (nomark _))
      (pss_one (ps_ret (pe_and (pe_cmpR op_eq (pe_callB call_len_seq (by rfl) B.len PySem.boot_len (pa_cons (pv 5) pa_nil)) pe_int (nomark _)) (pe_and (pe_cmpR op_eq (pe_callB call_len_seq (by rfl) B.len PySem.boot_len (pa_cons (pv 8) pa_nil)) pe_int (nomark _)) (pe_one (pe_cmp (pc_din hu (pe_tup (pa_cons (pv 3) (pa_cons (pe_ix ix_tup (pv 1) (pe_ix ix_list (pv 5) pe_int (fun _ _ => rfl)) (fun _ _ => rfl)) pa_nil))) (pv 0)) rfl))))))
      pss_nil)
    (pss_cons (ps_if (pt_cmpR op_eq (pv 4) pe_str (nomark _))
      (pss_one (ps_ret (pe_and (pe_cmp (pc_isN (pv 7)) rfl) (pe_and (pe_cmpR op_eq (pe_callB call_len_seq (by rfl) B.len PySem.boot_len (pa_cons (pv 5) pa_nil)) pe_int (nomark _)) (pe_one (pe_cmpR op_eq (pe_callB call_len_seq (by rfl) B.len PySem.boot_len (pa_cons (pv 8) pa_nil)) pe_int (nomark _)))))))
      pss_nil)
    (pss_cons (ps_if (PW.pt (pw_or (pt_cmpR op_ne (pv 4) pe_str (nomark _)) (pw_or (pt_cmp (pc_isN (pv 7))) (pw_or (pt_not (pt_tr (pv 5))) (pw_or1 (pt_not (pt_chain op_lt op_lt (pv 7) (pe_ix ix_list (pv 5) pe_int (fun _ _ => rfl)) (pv 6))))))))
      (pss_one (ps_ret pe_bl))
      pss_nil)
    (pss_cons (ps_set (i := 10) scBwho.nd rfl (.inl rfl) (pe_ifExp (pt_cmpR op_lt (pv 7) (pv 2) (nomark _)) pe_int pe_int))
    (pss_one (ps_ret (pe_and (pe_cmpR op_eq (pe_callB call_len_seq (by rfl) B.len PySem.boot_len (pa_cons (pv 5) pa_nil)) (pe_op op_add pe_int (pv 10)) (nomark _)) (pe_one (pe_cmpR op_eq (pe_callB call_len_seq (by rfl) B.len PySem.boot_len (pa_cons (pv 8) pa_nil)) (pv 10) (nomark _)))))))))))), ?_⟩
  obtain ⟨d, t, p, ps, line, x, wd, os, many, rfl, hd, ht, nd, ln, hp, mx, rok, q⟩ := h
  have hx := ix_at mx
  have il : line.idxOf x < line.length := List.idxOf_lt_length_iff.mpr mx
  obtain ⟨_, lo⟩ := rok.nd
  refine ⟨.ref t, rfl, ⟨t, _, rfl, ht⟩, _, rfl, t, line, x, line.idxOf x, rfl, rfl, ht.sq, hx, nd_first nd hx, ?_⟩
  refine ⟨_, rfl, _, rfl, _, rfl, _, rfl, t, _, rfl, ht, fun c H1 s1 e1 => ?_⟩
  rw [cutV_map, cutL_to] at e1
  refine ⟨_, rfl, d, c, ps, _, x, rfl, hd.same s1, .inl e1, (by rw [List.length_take]; omega), fun H2 s2 => ?_⟩
  have s12 := s1.trans s2
  have p2 := s12 _ _ hp
  refine ⟨_, rfl, p, rfl, ⟨_, .inl (.inl p2)⟩, fun D hD => ?_⟩
  refine lc_pick (walk_list (xs := (os.map fun y => line.idxOf y).map fun n : Nat => V.int n)) (os.map fun y => line.idxOf y) (fun n : Nat => V.int n) (fun n : Nat => decide (line.idxOf x < n)) (by simp) (by rw [List.length_map, List.length_map]; omega) hD (fun H' s => .inl (.inl (s _ _ p2))) ?_ ?_
  · rintro i n v H3 H3' k k0 hn s3 ⟨rfl, ev⟩ h5 h6
    rw [List.getElem?_map, hn] at ev
    cases ev
    refine ⟨rfl, _, rfl, _, rfl, _, _, rfl, rfl, _, rfl, ?_⟩
    rw [show decide (((line.idxOf x : Nat) : Int) < ((n : Nat) : Int)) = decide (line.idxOf x < n) from decide_eq_decide.mpr (by omega)]
    exact ite2 (fun c => ⟨_, rfl, h5 c _ (Same.refl _)⟩) (fun c => h6 (Bool.eq_false_iff.mpr c) _ (Same.refl _))
  intro H3 s3 e3
  have p3 := s3 _ _ p2
  have s13 := s12.trans s3
  have neq : ∀ a b : Str, a ≠ b → decide (V.str a = V.str b) = false := fun a b h => decide_eq_false fun z => h (V.str.inj z)
  have w1 : ("behind" : Str) ≠ "friend" := by decide +kernel
  have w2 : ("between" : Str) ≠ "friend" := by decide +kernel
  have w3 : ("between" : Str) ≠ "behind" := by decide +kernel
  rcases rok with ⟨fr, rfl, rfl, mf, lf, ff⟩ | ⟨z, rfl, rfl, mz, lz, hno⟩ | ⟨h, y, rfl, hh, my, hy, lyx, hz⟩
  · -- a friend behind
    have e3' : H3 D = some (.lst [V.int (line.idxOf fr : Nat)]) := by
      rw [e3]
      simp [lf]
    refine ⟨_, rfl, rfl, _, rfl, ?_⟩
    rw [decide_eq_true rfl]
    refine ⟨_, rfl, p, _, rfl, .inl (.inl (.inl p3)), rfl, true, rfl, ?_⟩
    refine ⟨_, rfl, D, _, rfl, .inl (.inl (.inl e3')), rfl, true, rfl, ?_⟩
    refine ⟨_, rfl, _, rfl, _, rfl, p, _, 0, .int (line.idxOf fr : Nat), rfl, rfl, .inl (.inl p3), atI_nat (j := 0) rfl, t, _, _, .str fr, rfl, rfl, (ht.same s13).sq, atI_nat (ix_map (ix_at mf)), (by show 2 ≤ sizeLine; decide), fun tq htq => ?_⟩
    have sq := same_upd (o := .tup [.str x, .str fr]) htq
    obtain ⟨kvs, k1, k2'⟩ := hd.same (s13.trans sq)
    have gP := DGet.t (k := Lk.k2 x fr) k1 (show upd H3 tq (.tup [.str x, .str fr]) tq = some (.tup ((Lk.k2 x fr).map kV)) from upd_same)
    refine ⟨_, rfl, d, _, rfl, gP, ?_⟩
    rw [k2', ff]
    exact q _ (s13.trans sq)
  · -- one behind
    have e3' : H3 D = some (.lst [V.int (line.idxOf z : Nat)]) := by
      rw [e3]
      simp [lz]
    refine ⟨_, rfl, rfl, _, rfl, ?_⟩
    rw [neq _ _ w1]
    refine ⟨_, rfl, rfl, _, rfl, ?_⟩
    rw [decide_eq_true rfl, hno]
    refine ⟨_, rfl, true, rfl, ?_⟩
    refine ⟨_, rfl, p, _, rfl, .inl (.inl (.inl p3)), rfl, true, rfl, ?_⟩
    refine ⟨_, rfl, D, _, rfl, .inl (.inl (.inl e3')), rfl, ?_⟩
    exact q _ s13
  · -- one between
    have ly : line.idxOf y < line.length := List.idxOf_lt_length_iff.mpr my
    refine ⟨_, rfl, rfl, _, rfl, ?_⟩
    rw [neq _ _ w2]
    refine ⟨_, rfl, rfl, _, rfl, ?_⟩
    rw [neq _ _ w3]
    refine ⟨_, rfl, rfl, _, rfl, ?_⟩
    rw [decide_eq_true rfl, hh]
    refine ⟨_, rfl, _, rfl, ?_⟩
    rw [show decide (lfpV (some h) = V.non) = false from rfl]
    have ehy : decide (((h : Nat) : Int) < ((line.idxOf y : Nat) : Int)) = true := decide_eq_true (by omega)
    have eyx : decide (((line.idxOf y : Nat) : Int) < ((line.idxOf x : Nat) : Int)) = true := decide_eq_true (by omega)
    rcases hz with ⟨hm, z, rfl, mz, lz⟩ | ⟨hm, rfl⟩
    · have e3' : H3 D = some (.lst [V.int (line.idxOf z : Nat)]) := by
        rw [e3]
        have : ¬ line.idxOf x < line.idxOf y := by omega
        simp [lz, this]
      refine ⟨_, rfl, true, .inl ⟨_, .inl (.inl p3), rfl⟩, ?_⟩
      refine ⟨_, rfl, _, rfl, p, _, 0, .int (line.idxOf y : Nat), rfl, rfl, .inl (.inl p3), atI_nat (j := 0) rfl, _, _, rfl, rfl, _, rfl, ?_⟩
      rw [ehy]
      refine ⟨_, rfl, _, _, rfl, rfl, _, rfl, ?_⟩
      rw [eyx]
      refine ⟨_, rfl, _, rfl, _, _, rfl, rfl, _, rfl, ?_⟩
      rw [show decide (((h : Nat) : Int) < ((many : Nat) : Int)) = true from decide_eq_true (by omega)]
      refine ⟨_, rfl, p, _, rfl, .inl (.inl (.inl p3)), ?_⟩
      refine ⟨_, rfl, _, _, rfl, rfl, rfl, true, rfl, ?_⟩
      refine ⟨_, rfl, D, _, rfl, .inl (.inl (.inl e3')), _, rfl, rfl, ?_⟩
      exact q _ s13
    · have e3' : H3 D = some (.lst []) := by
        rw [e3]
        have : ¬ line.idxOf x < line.idxOf y := by omega
        simp [this]
      refine ⟨_, rfl, true, .inl ⟨_, .inl (.inl p3), rfl⟩, ?_⟩
      refine ⟨_, rfl, _, rfl, p, _, 0, .int (line.idxOf y : Nat), rfl, rfl, .inl (.inl p3), atI_nat (j := 0) rfl, _, _, rfl, rfl, _, rfl, ?_⟩
      rw [ehy]
      refine ⟨_, rfl, _, _, rfl, rfl, _, rfl, ?_⟩
      rw [eyx]
      refine ⟨_, rfl, _, rfl, _, _, rfl, rfl, _, rfl, ?_⟩
      rw [show decide (((h : Nat) : Int) < ((many : Nat) : Int)) = false from decide_eq_false (by omega)]
      refine ⟨_, rfl, p, _, rfl, .inl (.inl (.inl p3)), ?_⟩
      refine ⟨_, rfl, _, _, rfl, rfl, rfl, true, rfl, ?_⟩
      refine ⟨_, rfl, D, _, rfl, .inl (.inl (.inl e3')), _, rfl, rfl, ?_⟩
      exact q _ s13
abbrev sShN : Stmt := topS 45
abbrev nShN : List Str := ["friends", "served", "row", "thing", "elders", "part", "line", "whos", "who", "word", "others", "there", "place", "known", "other"]
abbrev pShN : List Str := ["friends", "served", "row", "thing", "elders"]
theorem scShN : FnScope nShN pShN (defScope sShN) := ⟨rfl, rfl, rfl, by decide +kernel, rfl, by decide +kernel, by decide +kernel⟩
-- slots: 0:friends 1:served 2:row 3:thing 4:elders* 5:part 6:line* 7:whos* 8:who 9:word 10:others 11:there* 12:place 13:known 14:other
theorem ok_nevT {f : Addr} {fd : FuncData} (B : Blt mg) (CBw : Cal P w K mg base 2 "bars_who" ["known", "line", "many", "who", "word", "places"] spBwho) (CBo : Cal P w K mg base 1 "both_ways" ["friends"] spBoth) (CIc : Cal P w K mg base 3 "is_clause" ["thing"] spClT) (F : Fun K "shows_never" "shows_never" sShN f fd) : FnOk P w K mg base CX0 4 f fd pShN spNevT := by
  refine fok F scShN (fun vs H Q E h => ?_) (fun cdv A outer s H vs Q E hr h => ?_)
  · obtain ⟨a, sv, r, p, e, ps, olds, gn, st, rs, rfl, _⟩ := h
    rfl
  have hu := hu_of hr
  refine ⟨_, pss_cons (ps_if (PW.pt (pw_or (pt_not (pt_val (pe_callB call_isi (by rfl) B.isinstance (by decide +kernel) (pa_cons (pv 3) (pa_cons (pe_bltn (v := .ty "list") (by rfl) B.list (by decide +kernel) rfl) pa_nil))))) (pw_or (pt_not (pt_tr (pv 3))) (pw_or1 (pt_not (pt_val (pe_callB (cr_all rfl) (by rfl) B.all (by decide +kernel) (pa_cons (pe_lc (own := [("part", 5)]) (g := gName 5) (tt := tYes) (te := tCall spClT [] E0 (tCons (tVar 5) tNil)) rfl scShN.nd (pi_list (pv 3)) (blkOk_by (N := nShN) (sc := defScope sShN) (by decide +kernel)) (fun _ _ _ _ _ => pg_name (i := 5) scShN.nd rfl (Or.inl rfl)) (fun _ _ _ _ _ => pts_nil) (fun _ _ _ _ _ => pe_cal CIc hr (pa_cons (pv 5) pa_nil))) pa_nil))))))))
      (pss_one (ps_ret pe_bl))
      pss_nil)
    (pss_cons (ps_set (i := 6) scShN.nd rfl (.inr rfl) (pe_op op_catM (pe_callTy call_tupRow (by rfl) B.tuple (by decide +kernel) (pa_cons (pv 1) pa_nil)) (pe_callTy call_tupRow (by rfl) B.tuple (by decide +kernel) (pa_cons (pv 2) pa_nil))))
    (pss_cons (ps_set (i := 7) scShN.nd rfl (.inr rfl) (pe_lc (own := [("who", 8), ("word", 9), ("others", 10)]) (g := gTup K 3 (gCons (gName 8) (gCons (gName 9) (gCons (gName 10) gNil)))) (tt := tYes) (te := tVar 8) rfl scShN.nd (pi_list (pv 3)) (blkOk_by (N := nShN) (sc := defScope sShN) (by decide +kernel)) (fun _ _ _ _ _ => pg_tup rfl (pgs_cons (pg_name (i := 8) scShN.nd rfl (Or.inl rfl)) (pgs_cons (pg_name (i := 9) scShN.nd rfl (Or.inl rfl)) (pgs_cons (pg_name (i := 10) scShN.nd rfl (Or.inl rfl)) pgs_nil)))) (fun _ _ _ _ _ => pts_nil) (fun _ _ _ _ _ => pv 8)))
    (pss_cons (ps_if (PW.pt (pw_or (pt_cmpR op_ne (pe_lenStrs rfl (by rfl) B.len (by rfl) B.set (pv 7)) (pe_callB call_len_seq (by rfl) B.len PySem.boot_len (pa_cons (pv 7) pa_nil)) (nomark _)) (pw_or1 (pt_not (pt_val (pe_callB (cr_all rfl) (by rfl) B.all (by decide +kernel) (pa_cons (pe_lc (own := [("who", 8)]) (g := gName 8) (tt := tYes) (te := tAndV (tOp (rIn K false) (tVar 8) (tVar 6)) (tOp (rIn K true) (tVar 8) (tVar 4))) rfl scShN.nd (pi_list (pv 7)) (blkOk_by (N := nShN) (sc := defScope sShN) (by decide +kernel)) (fun _ _ _ _ _ => pg_name (i := 8) scShN.nd rfl (Or.inl rfl)) (fun _ _ _ _ _ => pts_nil) (fun _ _ _ _ _ => pe_and (pe_cmpR op_in_seq (pv 8) (pv 6) (by rfl)) (pe_one (pe_cmpR op_notIn_seq (pv 8) (pv 4) (by rfl))))) pa_nil)))))))
      (pss_one (ps_ret pe_bl))
      pss_nil)
    (pss_cons (ps_set (i := 11) scShN.nd rfl (.inr rfl) (pe_dc (own := [("place", 12), ("who", 8)]) (g := gTup K 2 (gCons (gName 12) (gCons (gName 8) gNil))) (tt := tOr (tTest (tOp (rIn K false) (tVar 8) (tVar 7))) (tTest (tOp (rIn K false) (tVar 8) (tVar 4)))) (tk := tVar 8) (tv := tVar 12) rfl scShN.nd (pi_enumT (by rfl) B.enumerate (pa_cons (pv 6) pa_nil)) (blkOk_by (N := nShN) (sc := defScope sShN) (by decide +kernel)) (fun _ _ _ _ _ => pg_tup rfl (pgs_cons (pg_name (i := 12) scShN.nd rfl (Or.inl rfl)) (pgs_cons (pg_name (i := 8) scShN.nd rfl (Or.inl rfl)) pgs_nil))) (fun _ _ _ _ _ => pts_one (PW.pt (pw_or (pt_cmpR op_in_seq (pv 8) (pv 7) (by rfl)) (pw_or1 (pt_cmpR op_in_seq (pv 8) (pv 4) (by rfl)))))) (fun _ _ _ _ _ => pv 8) (fun _ _ _ _ _ => pv 12)))
    (pss_cons (ps_set (i := 13) scShN.nd rfl (.inl rfl) (pe_cal CBo hr (pa_cons (pv 0) pa_nil)))
    (pss_cons (ps_for PassesOwn.never rfl (pi_list (pv 3)) (pg_tup rfl (pgs_cons (pg_name (i := 8) scShN.nd rfl (.inl rfl)) (pgs_cons (pg_name (i := 9) scShN.nd rfl (.inl rfl)) (pgs_cons (pg_name (i := 10) scShN.nd rfl (.inl rfl)) pgs_nil))))
      (pss_cons (ps_if (pt_not (pt_val (pe_callB (cr_all rfl) (by rfl) B.all (by decide +kernel) (pa_cons (pe_lc (own := [("other", 14)]) (g := gName 14) (tt := tYes) (te := tDIn (tVar 14) (tVar 11)) rfl scShN.nd (pi_tup (pv 10)) (blkOk_by (N := nShN) (sc := defScope sShN) (by decide +kernel)) (fun _ _ _ _ _ => pg_name (i := 14) scShN.nd rfl (Or.inl rfl)) (fun _ _ _ _ _ => pts_nil) (fun _ _ _ _ _ => pe_cmp (pc_din hu (pv 14) (pv 11)) rfl)) pa_nil))))
          (pss_one (ps_ret pe_bl))
          pss_nil)
        (pss_one (ps_if (pt_not (pt_val (pe_cal CBw hr (pa_cons (pv 13) (pa_cons (pv 6) (pa_cons (pe_callB call_len_seq (by rfl) B.len PySem.boot_len (pa_cons (pv 1) pa_nil)) (pa_cons (pv 8) (pa_cons (pv 9) (pa_cons (pe_lc (own := [("other", 14)]) (g := gName 14) (tt := tYes) (te := tDGet (tVar 11) (tVar 14)) rfl scShN.nd (pi_tup (pv 10)) (blkOk_by (N := nShN) (sc := defScope sShN) (by decide +kernel)) (fun _ _ _ _ _ => pg_name (i := 14) scShN.nd rfl (Or.inl rfl)) (fun _ _ _ _ _ => pts_nil) (fun _ _ _ _ _ => pe_dget hu (pv 11) (pv 14) (fun _ _ => rfl))) pa_nil)))))))))
          (pss_one (ps_ret pe_bl))
          pss_nil))))
    (pss_one (ps_ret pe_bl)))))))), ?_⟩
  obtain ⟨a, sv, r, p, e, ps, olds, gn, st, rs, rfl, ha, hpl, hsv, hr', he, okn, nd, hn, hp, hrs, ok, q⟩ := h
  obtain ⟨ne, ndm, inm, oth, brs⟩ := ok
  have rl : (refsR rs).length = rs.length := by unfold refsR; rw [List.length_map]
  have lm : (rs.map fun q : LR => q.2.2.1).length ≤ (gn ++ st).length := nd_len _ _ ndm fun x hx => by
    obtain ⟨q, hq, rfl⟩ := List.mem_map.mp hx
    exact (inm q hq).1
  have lr : rs.length ≤ 60 := by
    rw [List.length_map, List.length_append] at lm
    omega
  have item : ∀ (i : Nat) (x : V), (refsR rs)[i]? = some x → ∃ q : LR, rs[i]? = some q ∧ x = .ref q.1 ∧ ReasonAt H q := fun i x e => by
    obtain ⟨q, hq, rfl⟩ := at_map e
    exact ⟨q, hq, rfl, hrs q (List.mem_of_getElem? hq)⟩
  refine ⟨_, rfl, _, _, _, _, true, rfl, .ty _, .base (.lst hp), kit_ty (by decide +kernel), true, rfl, ?_⟩
  refine ⟨_, rfl, true, .inl ⟨_, .inl (.inl hp), ?_⟩, ?_⟩
  · cases rs with
    | nil => exact absurd rfl ne
    | cons c l => rfl
  refine ⟨_, rfl, p, rfl, ⟨_, .inl (.inl hp)⟩, fun D hD => ?_⟩
  refine lc_vals (walk_list (xs := refsR rs)) (fun _ => .bl true) (by rw [rl]; omega) hD (fun H' s => .inl (.inl (s _ _ hp))) ?_ ?_
  · rintro i v H2 H2' k hi s2 ⟨rfl, ev⟩ hk
    obtain ⟨q1, hq, rfl, r0⟩ := item i v ev
    have mq := List.mem_of_getElem? hq
    obtain ⟨n1, n2⟩ := (brs q1 mq).nd
    exact ⟨rfl, _, rfl, q1, rfl, r0.same s2, okn _ (inm q1 mq).1, fun y hy => okn y ((brs q1 mq).mem y hy), n1, by omega, fun H4 s4 => hk H4 s4⟩
  intro H2 s2 d2
  rw [trues_all] at d2
  refine ⟨D, _, rfl, .inl (.inl d2), true, by rw [show (List.replicate (refsR rs).length true).all id = true by simp], ?_⟩
  -- line
  refine ⟨_, rfl, sv, gn, rfl, hsv.same s2, fun t1 H3 s3 e3 => ?_⟩
  refine ⟨_, rfl, r, st, rfl, (hr'.same s2).same s3, fun t2 H4 s4 e4 => ?_⟩
  refine ⟨t1, t2, _, _, rfl, rfl, e3.same s4, e4, ?_, fun ln H5 s5 e5 => ?_⟩
  · rw [List.length_map, List.length_map]
    exact small_le (by omega)
  rw [← List.map_append] at e5
  have s05 := ((s2.trans s3).trans s4).trans s5
  have p5 := s05 _ _ hp
  -- whos
  refine ⟨_, rfl, p, rfl, ⟨_, .inl (.inl p5)⟩, fun M hM => ?_⟩
  refine lc_strs (walk_list (xs := refsR rs)) (rs.map fun q : LR => q.2.2.1) (by rw [List.length_map, rl]) (by rw [rl]; omega) hM (fun H' s => .inl (.inl (s _ _ p5))) ?_ ?_
  · rintro j x v H6 H6' kk hx s6 ⟨rfl, ev⟩ k1
    obtain ⟨q1, hq, rfl, r0⟩ := item j v ev
    rw [List.getElem?_map, hq] at hx
    cases hx
    obtain ⟨h1, h2⟩ := r0.same (s05.trans s6)
    exact ⟨q1.1, _, rfl, h1.sq, rfl, _, _, rfl, _, _, rfl, _, _, rfl, rfl, rfl, _, rfl, k1 _ (Same.refl _)⟩
  intro H6 s6 e6
  have s06 := s05.trans s6
  have p6 := s6 _ _ p5
  have lmm : (rs.map fun q : LR => q.2.2.1).length ≤ 60 := by rw [List.length_map]; exact lr
  refine ⟨_, rfl, M, _, rfl, e6, ndm, by omega, .ref M, rfl, M, _, rfl, .inl (.inl (.inl e6)), rfl, _, rfl, ite2 (fun c => ?_) (fun _ => ?_)⟩
  · rw [List.length_map V.str] at c
    simp at c
  refine ⟨_, rfl, M, rfl, ⟨_, .inl (.inl e6)⟩, fun D1 hD1 => ?_⟩
  have l6 := e5.same s6
  have o6 := he.same s06
  refine lc_vals (walk_list (xs := (rs.map fun q : LR => q.2.2.1).map V.str)) (fun _ => .bl true) (by rw [List.length_map]; omega) hD1 (fun H' s => .inl (.inl (s _ _ e6))) ?_ ?_
  · rintro j v H7 H7' kk hj s7 ⟨rfl, ex⟩ k1
    obtain ⟨y, hy, rfl⟩ := at_map ex
    have my : y ∈ gn ++ st ∧ y ∉ olds := by
      obtain ⟨q1, hq, rfl⟩ := List.mem_map.mp (List.mem_of_getElem? hy)
      exact inm q1 hq
    refine ⟨rfl, _, rfl, _, rfl, ln, _, rfl, .inr (l6.same s7).sq, rfl, flat_strs _, ?_⟩
    rw [inV_strs, decide_eq_true my.1]
    refine ⟨_, rfl, _, rfl, _, rfl, e, _, rfl, .inr (o6.same s7).sq, rfl, flat_strs _, ?_⟩
    rw [inV_strs, decide_eq_false my.2]
    exact k1 _ (Same.refl _)
  intro H7 s7 e7
  rw [trues_all] at e7
  refine ⟨D1, _, rfl, .inl (.inl e7), ?_⟩
  rw [show (List.replicate ((rs.map fun q : LR => q.2.2.1).map V.str).length true).all id = true by simp]
  refine ⟨_, rfl, ?_⟩
  have s07 := s06.trans s7
  have m7 := s7 _ _ e6
  have l7 := l6.same s7
  have o7 := o6.same s7
  have p7 := s7 _ _ p6
  have tl : ((gn ++ st).map V.str).length ≤ 60 := by rw [List.length_map, List.length_append]; exact hn
  -- who stands where
  refine ⟨_, rfl, ln, _, rfl, l7.sq, fun Dt hDt => ?_⟩
  refine dc_it (walk_enumT (xs := (gn ++ st).map V.str)) (fun i H' => Same H7 H' ∧ ∃ kvs, H' Dt = some (.dK kvs) ∧ kvs.length ≤ i ∧ ∀ x ∈ (gn ++ st).take i, x ∈ (rs.map fun q : LR => q.2.2.1) ∨ x ∈ olds → valV kvs (.inr x) = some (.int ((gn ++ st).idxOf x : Nat))) ?_ ?_ ?_ ?_
  · exact ⟨same_upd hDt, [], upd_same, Nat.le_refl _, fun x hx => by rw [List.take_zero] at hx; cases hx⟩
  · rintro i H' _ ⟨s8, _⟩
    exact (l7.same s8).sq
  · rintro i v H8 H9 hi ⟨s8, kvs, d8, c8, v8⟩ ⟨T, x1, x2, rfl, nT, rfl, x1e, ex⟩
    cases x1e
    obtain ⟨x, hx, rfl⟩ := at_map ex
    have sT := same_upd (o := .tup [.int (i : Nat), .str x]) nT
    have s9 := s8.trans sT
    have d9 := sT _ _ d8
    have tk : (gn ++ st).take (i + 1) = (gn ++ st).take i ++ [x] := by
      rw [List.take_add_one, hx]
      rfl
    have ei : (gn ++ st).idxOf x = i := idx_at nd hx
    have il : i < 60 := by
      have := (List.getElem?_eq_some_iff.mp hx).1
      rw [List.length_append] at this
      omega
    have put : Same H7 (upd (upd H8 T (.tup [.int (i : Nat), .str x])) Dt (.dK (putK kvs (.inr x) (.int (i : Nat))))) ∧ ∃ kvs_1, upd (upd H8 T (.tup [.int (i : Nat), .str x])) Dt (.dK (putK kvs (.inr x) (.int (i : Nat)))) Dt = some (.dK kvs_1) ∧ kvs_1.length ≤ i + 1 ∧ ∀ y ∈ (gn ++ st).take (i + 1), y ∈ (rs.map fun q : LR => q.2.2.1) ∨ y ∈ olds → valV kvs_1 (.inr y) = some (.int ((gn ++ st).idxOf y : Nat)) := by
      refine ⟨fun b o z => ?_, _, upd_same, ?_, fun y hy hm => ?_⟩
      · rw [upd_ne (ne_of_none z hDt)]
        exact s9 _ _ z
      · have := putK_lenK (kvs := kvs) (k := .inr x) (v := V.int (i : Nat))
        omega
      · rw [valV_put]
        by_cases c : y = x
        · subst c
          rw [if_pos rfl, ei]
        · rw [if_neg (fun z => c (Sum.inr.inj z))]
          rw [tk] at hy
          rcases List.mem_append.mp hy with z | z
          · exact v8 y z hm
          · exact absurd (List.mem_singleton.mp z) c
    refine ⟨T, _, rfl, .inl (.inl upd_same), rfl, _, _, rfl, _, _, rfl, rfl, rfl, ?_⟩
    refine ⟨_, rfl, _, rfl, M, _, rfl, .inl (.inl (.inl (s9 _ _ m7))), rfl, flat_strs _, _, rfl, ?_⟩
    rw [inV_strs]
    refine ite2 (fun c => ?_) (fun c => ?_)
    · exact ⟨_, rfl, _, rfl, kvs, .inr x, rfl, d9, small1000 (by omega), put⟩
    · refine ⟨_, rfl, _, rfl, e, _, rfl, .inr (o7.same s9).sq, rfl, flat_strs _, _, rfl, ?_⟩
      rw [inV_strs]
      refine ite2 (fun c2 => ?_) (fun c2 => ?_)
      · exact ⟨_, rfl, _, rfl, kvs, .inr x, rfl, d9, small1000 (by omega), put⟩
      · refine ⟨s9, kvs, d9, by omega, fun y hy hm => ?_⟩
        rw [tk] at hy
        rcases List.mem_append.mp hy with z | z
        · exact v8 y z hm
        · rw [List.mem_singleton.mp z] at hm
          exact absurd hm (fun hm => hm.elim (fun z => c (decide_eq_true z)) fun z => c2 (decide_eq_true z))
  rintro H8 ⟨s8, kvs, d8, c8, v8⟩
  rw [List.length_map, List.take_of_length_le (Nat.le_refl _)] at v8
  -- known
  have s08 := s07.trans s8
  refine ⟨_, rfl, a, ps, rfl, ha.same s08, hpl, fun kd H9 s9 n9 k9 => ?_⟩
  have s79 := s8.trans s9
  have s09 := s08.trans s9
  have p9 := s79 _ _ p7
  -- each bars
  refine ⟨_, rfl, p, rfl, ⟨_, .inl (.inl p9)⟩, ?_⟩
  refine for_it (walk_list (xs := refsR rs)) (fun i σ H' => ∃ (y8 y9 y10 y12 y14 : Option V), σ = [some (.ref a), some (.ref sv), some (.ref r), some (.ref p), some (.ref e), none, some (.ref ln), some (.ref M), y8, y9, y10, some (.ref Dt), y12, some (.ref kd), y14] ∧ Same H9 H') ?_ (fun i σ H' _ h => by obtain ⟨_, _, _, _, _, _, s⟩ := h; exact .inl (.inl (s _ _ p9))) ?_ ?_
  · exact ⟨_, _, _, _, _, rfl, Same.refl _⟩
  · rintro i v σ H10' H10 hi ⟨y8, y9, y10, y12, y14, rfl, s10⟩ ⟨rfl, ev⟩
    obtain ⟨q1, hq, rfl, r0⟩ := item i v ev
    have mq := List.mem_of_getElem? hq
    have s010 := s09.trans s10
    obtain ⟨h1, h2⟩ := r0.same s010
    have lo := (brs q1 mq).nd.2
    have mo : ∀ y ∈ q1.2.2.2.2, valV kvs (.inr y) = some (.int ((gn ++ st).idxOf y : Nat)) := fun y hy => v8 y ((brs q1 mq).mem y hy) (oth q1 mq y hy)
    have dt10 := s10 _ _ (s9 _ _ d8)
    refine ⟨q1.1, _, rfl, h1.sq, rfl, _, _, rfl, _, _, rfl, _, _, rfl, rfl, ?_⟩
    refine ⟨_, rfl, q1.2.1, rfl, ⟨_, h2.sq⟩, fun D2 hD2 => ?_⟩
    refine lc_vals (walk_tup (xs := q1.2.2.2.2.map V.str)) (fun _ => .bl true) (by rw [List.length_map]; omega) hD2 (fun H' s => (h2.same s).sq) ?_ ?_
    · rintro j v H11 H11' kk hj s11 ⟨rfl, ex⟩ k1
      obtain ⟨y, hy, rfl⟩ := at_map ex
      have g := DGet.k (k := .inr y) (s11 _ _ dt10)
      rw [mo y (List.mem_of_getElem? hy)] at g
      exact ⟨rfl, _, rfl, _, rfl, Dt, _, rfl, g, k1 _ (Same.refl _)⟩
    intro H11 s11 e11
    rw [trues_all] at e11
    refine ⟨D2, _, rfl, .inl (.inl e11), true, by rw [show (List.replicate (q1.2.2.2.2.map V.str).length true).all id = true by simp], ?_⟩
    have s011 := s010.trans s11
    have h3 := h2.same s11
    refine ⟨_, rfl, _, rfl, _, rfl, sv, _, rfl, (hsv.same s011).sq, _, rfl, _, rfl, _, rfl, q1.2.1, rfl, ⟨_, h3.sq⟩, fun D3 hD3 => ?_⟩
    refine lc_list (walk_tup (xs := q1.2.2.2.2.map V.str)) q1.2.2.2.2 (fun y => V.int ((gn ++ st).idxOf y : Nat)) (List.length_map ..).symm (by rw [List.length_map]; omega) hD3 (fun H' s => (h3.same s).sq) ?_ ?_
    · rintro j y v H12 H12' kk hy s12 ⟨rfl, ex⟩ k1
      rw [ix_map hy] at ex
      cases ex
      have g := DGet.k (k := .inr y) (s12 _ _ (s11 _ _ dt10))
      rw [mo y (List.mem_of_getElem? hy)] at g
      exact ⟨rfl, _, rfl, _, rfl, Dt, _, rfl, g, k1 _ (Same.refl _)⟩
    intro H12 s12 e12
    have s912 := (s10.trans s11).trans s12
    refine ⟨kd, ln, D3, ps, gn ++ st, q1.2.2.1, q1.2.2.2.1, q1.2.2.2.2, gn.length, by rw [List.length_map]; rfl, k9.same s912, l7.same (s79.trans s912), nd, by rw [List.length_append]; exact hn, by rw [e12, List.map_map]; rfl, (inm q1 mq).1, brs q1 mq, fun H13 s13 => ⟨true, rfl, ?_⟩⟩
    exact ⟨_, _, _, _, _, rfl, s912.trans s13⟩
  · rintro σ H10 ⟨y8, y9, y10, y12, y14, rfl, s10⟩
    exact q _ (s09.trans s10)
theorem ok_clD {f : Addr} {fd : FuncData} (B : Blt mg) (F : Fun K "is_clause" "is_clause" sIcl f fd) : FnOk P w K mg base CX0 3 f fd pIcl spClD := by
  refine fok F scIcl (fun vs H Q E h => ?_) (fun cdv A outer s H vs Q E hr h => ?_)
  · obtain ⟨t, d, rfl, _⟩ := h
    rfl
  have hu := hu_of hr
  refine ⟨_, pss_cons (ps_if (PW.pt (pw_or (pt_not (pt_val (pe_callB call_isi (by rfl) B.isinstance (by decide +kernel) (pa_cons (pv 0) (pa_cons (pe_bltn (v := .ty "tuple") (by rfl) B.tuple (by decide +kernel) rfl) pa_nil))))) (pw_or1 (pt_cmpR op_ne (pe_callB call_len_seq (by rfl) B.len PySem.boot_len (pa_cons (pv 0) pa_nil)) pe_int (nomark _)))))
      (pss_one (ps_ret pe_bl))
      pss_nil)
    pss_never, ?_⟩
  obtain ⟨t, d, rfl, ht, q⟩ := h
  refine ⟨_, rfl, _, _, _, _, true, rfl, .ty _, (show TupX _ t _ from .inr ht).ty, kit_ty (by decide +kernel), true, rfl, ?_⟩
  refine ⟨_, rfl, t, _, rfl, .inr ht.sq, rfl, true, ?_, ?_⟩
  · cases d <;> rfl
  · exact q H (Same.refl _)
theorem ok_nevD {f : Addr} {fd : FuncData} (B : Blt mg) (CIc : Cal P w K mg base 3 "is_clause" ["thing"] spClD) (F : Fun K "shows_never" "shows_never" sShN f fd) : FnOk P w K mg base CX0 4 f fd pShN spNevD := by
  refine fok F scShN (fun vs H Q E h => ?_) (fun cdv A outer s H vs Q E hr h => ?_)
  · obtain ⟨a, sv, r, e, p, ds, rfl, _⟩ := h
    rfl
  have hu := hu_of hr
  refine ⟨_, pss_cons (ps_if (PW.pt (pw_or (pt_not (pt_val (pe_callB call_isi (by rfl) B.isinstance (by decide +kernel) (pa_cons (pv 3) (pa_cons (pe_bltn (v := .ty "list") (by rfl) B.list (by decide +kernel) rfl) pa_nil))))) (pw_or (pt_not (pt_tr (pv 3))) (pw_or1 (pt_not (pt_val (pe_callB (cr_all rfl) (by rfl) B.all (by decide +kernel) (pa_cons (pe_lc (own := [("part", 5)]) (g := gName 5) (tt := tYes) (te := tCall spClD [] E0 (tCons (tVar 5) tNil)) rfl scShN.nd (pi_list (pv 3)) (blkOk_by (N := nShN) (sc := defScope sShN) (by decide +kernel)) (fun _ _ _ _ _ => pg_name (i := 5) scShN.nd rfl (Or.inl rfl)) (fun _ _ _ _ _ => pts_nil) (fun _ _ _ _ _ => pe_cal CIc hr (pa_cons (pv 5) pa_nil))) pa_nil))))))))
      (pss_one (ps_ret pe_bl))
      pss_nil)
    pss_never, ?_⟩
  obtain ⟨a, sv, r, e, p, ds, rfl, hp, hd, ln, q⟩ := h
  refine ⟨_, rfl, _, _, _, _, true, rfl, .ty _, .base (.lst hp), kit_ty (by decide +kernel), true, rfl, ?_⟩
  cases ds with
  | nil =>
    refine ⟨_, rfl, false, .inl ⟨_, .inl (.inl hp), rfl⟩, ?_⟩
    exact q H (Same.refl _)
  | cons d0 ds =>
    refine ⟨_, rfl, true, .inl ⟨_, .inl (.inl hp), rfl⟩, ?_⟩
    refine ⟨_, rfl, p, rfl, ⟨_, .inl (.inl hp)⟩, fun D hD => ?_⟩
    have rl : (refsD (d0 :: ds)).length = (d0 :: ds).length := by unfold refsD; rw [List.length_map]
    refine lc_vals (walk_list (xs := refsD (d0 :: ds))) (fun _ => .bl false) (by rw [rl]; omega) hD (fun H' s => .inl (.inl (s _ _ hp))) ?_ ?_
    · rintro i v H2 H2' k hi s2 ⟨rfl, ex⟩ hk
      obtain ⟨c, hc, rfl⟩ := at_map ex
      exact ⟨rfl, _, rfl, c.1, c.2, rfl, (hd c (List.mem_of_getElem? hc)).same s2, fun H4 s4 => hk H4 s4⟩
    · intro H2 s2 d2
      rw [show ((List.range (refsD (d0 :: ds)).length).map fun _ => V.bl false) = (List.replicate (refsD (d0 :: ds)).length false).map V.bl by rw [List.map_const', List.length_range, List.map_replicate]] at d2
      refine ⟨D, _, rfl, .inl (.inl d2), false, rfl, ?_⟩
      exact q H2 s2
theorem cal_nevB {f D E : Addr} {oc : Value} {od an ed : Option Addr} {osl es : Array (Option Value)} {doc pm cdv ct : Value} {en : Nat}
    (l : K.lookup f = some ⟨oc, od, .func (PySem.W.fnOf "shows_never" "shows_never" (defArgs sShN) (defBody sShN) (defScope sShN) .none (.ref D) doc pm an cdv ct), osl⟩) (c : PySem.W.codeIn K cdv "shows_never" = true) (kp : PySem.W.keepIn K (.ref f) = true) (n : PySem.W.nsIn K D "elders" = some (some (.ref E)))
    (e : K.lookup E = some ⟨.type "tuple", ed, .seq #[] en, es⟩) (hm : mg "shows_never" = some (.ref f)) (B : Blt mg) (CBw : Cal P w K mg base 2 "bars_who" ["known", "line", "many", "who", "word", "places"] spBwho) (CBo : Cal P w K mg base 1 "both_ways" ["friends"] spBoth) (CIc : Cal P w K mg base 3 "is_clause" ["thing"] spClT) (CId : Cal P w K mg base 3 "is_clause" ["thing"] spClD) : CalK P w K mg base 4 "shows_never" ["friends", "served", "row", "thing", "elders"] 4 "elders" spNevB E :=
  calk_mk l c kp n e hm ((ok_nevD B CId (fun_mk l c kp)).or (ok_nevT B CBw CBo CIc (fun_mk l c kp))) rfl (fun _ _ _ _ _ _ us ws h1 h2 => match us, ws, h1, h2 with | [_, _, _, _], [_], _, _ => rfl)
    (fun _ _ _ _ _ _ us ks h1 h2 => match us, ks, h1, h2 with | [_, _, _, _], [_], _, _ => ⟨_, _, _, _, _, _, rfl, rfl, rfl⟩)
/-! ### BadDeed, done of no deeds, shows_history of papers -/
abbrev sBadI : Stmt := clsFn (topS 1) 0
abbrev nBadI : List Str := ["self", "number"]
theorem scBadI : FnScope nBadI nBadI (defScope sBadI) := ⟨rfl, rfl, rfl, by decide +kernel, rfl, by decide +kernel, by decide +kernel⟩
theorem ok_badI {C f : Addr} {fd : FuncData} (T : BadC K mg C f) (F : Fun K "__init__" "BadDeed.__init__" sBadI f fd) : L2.FnOk P w K mg base L2.CX0 1 f fd nBadI (spBadI K C) := by
  refine F.ok scBadI (fun vs H Q E h => ?_) (fun cdv A outer s H vs Q E hr h => ?_)
  · obtain ⟨a, rfl, _⟩ := h
    rfl
  refine ⟨_, pss_cons (ps_expr (pe_veinit (by rfl) T.nVE T.vV (pa_cons (pv 0) (pa_cons (pe_joined (.cons pe_str (.cons (pe_fmt (pv 1)) (.cons pe_str .nil)))) pa_nil))))
    (pss_one (ps_ost (pv 0) (pv 1))), ?_⟩
  obtain ⟨a, rfl, ha, q⟩ := h
  refine ⟨_, rfl, _, rfl, by decide +kernel, _, rfl, .inr ⟨0, rfl, by decide +kernel, _, rfl, by decide +kernel, _, rfl, by decide +kernel, a, C, _, rfl, (by show 1 ≤ 1000; decide), T.T, ha, ?_⟩⟩
  exact ⟨_, rfl, _, rfl, a, C, rfl, T.T, T.noN, .inl ⟨ha, fun dx h1 h2 => q dx h1 h2⟩⟩
theorem ok_rdsX {f : Addr} {fd : FuncData} (B : Blt mg) (CIn : Cal P w K mg base 1 "is_name" ["thing"] spIsName) (F : Fun K "reads_as_deed" "reads_as_deed" sReads f fd) : FnOk P w K mg base CX0 2 f fd pRds spRdsX := by
  refine fok F scRds (fun vs H Q E h => ?_) (fun cdv A outer s H vs Q E hr h => ?_)
  · obtain ⟨q1, rfl, _⟩ := h
    rfl
  have hu := hu_of hr
  refine ⟨_, pss_cons (ps_if (pt_not (pt_val (pe_callB call_isiT (by rfl) B.isinstance (by decide +kernel) (pa_cons (pv 0) (pa_cons (pe_tup (pa_cons (pe_bltn (v := .ty "list") (by rfl) B.list (by decide +kernel) rfl) (pa_cons (pe_bltn (v := .ty "tuple") (by rfl) B.tuple (by decide +kernel) rfl) pa_nil))) pa_nil)))))
      (pss_one (ps_ret pe_bl))
      pss_nil)
    (pss_cons (ps_if (pt_cmpR op_eq (pe_callB call_len_seq (by rfl) B.len PySem.boot_len (pa_cons (pv 0) pa_nil)) pe_int (nomark _))
      (pss_one (ps_ret (pe_cmpR op_eq (pe_ix ix_tup (pv 0) pe_int (fun _ _ => rfl)) pe_str (nomark _))))
      pss_nil)
    (pss_one (ps_ret (pe_and (pe_cmpR op_eq (pe_callB call_len_seq (by rfl) B.len PySem.boot_len (pa_cons (pv 0) pa_nil)) pe_int (nomark _)) (pe_and (pe_cmpR op_eq (pe_ix ix_tup (pv 0) pe_int (fun _ _ => rfl)) pe_str (nomark _)) (pe_one (pe_cal CIn hr (pa_cons (pe_ix ix_tup (pv 0) pe_int (fun _ _ => rfl)) pa_nil)))))))), ?_⟩
  obtain ⟨q1, rfl, ⟨ht, _⟩, q⟩ := h
  have ty : ∀ {H' : Hp}, Same H H' → TyX K H' (.ref q1.1) (.type "tuple") := fun s => (show TupX _ q1.1 _ from .inr (ht.same s)).ty
  refine ⟨_, rfl, (by show 2 ≤ sizeLine; decide), fun p hp => ?_⟩
  have s1 := same_upd (o := .tup [.ty "list", .ty "tuple"]) hp
  refine ⟨_, p, _, _, _, true, rfl, upd_same, .cons (.ty _) (.cons (.ty _) .nil), ty s1, kitAny_cons (b := false) (kit_ty (by decide +kernel)) (fun _ => kitAny_cons (b := true) (kit_ty (by decide +kernel)) (fun z => nomatch z) (fun _ => rfl)) (fun z => nomatch z), _, rfl, ?_⟩
  have h1 := ht.same s1
  refine ⟨_, rfl, q1.1, _, rfl, .inr h1.sq, rfl, _, rfl, ite2 (fun c => absurd c (by show ¬ decide (V.int 3 = V.int 1) = true; decide)) (fun _ => ?_)⟩
  refine ⟨_, rfl, q1.1, _, rfl, .inr h1.sq, rfl, false, rfl, ?_⟩
  exact q _ s1
theorem ok_doneX {C f fI : Addr} {fd fdI : FuncData} (B : Blt mg) (T : BadC K mg C fI) (FI : L2.FnOk P w K mg base L2.CX0 1 fI fdI nBadI (spBadI K C)) (bI : Binds K fdI nBadI []) (CRds : Cal P w K mg base 2 "reads_as_deed" ["thing"] spRdsX) (CCbd : Cal P w K mg base 1 "can_be_done" ["deed", "row", "been"] spCanBe) (F : Fun K "done" "done" sDone f fd) : FnOk P w K mg base (L2.CX P w) 6 f fd pDn (spDoneX C) := by
  refine fokX F scDn (fun vs H Q E h => ?_) (fun cdv A outer s H vs Q E hr h => ?_)
  · obtain ⟨a, p, e, olds, q1, rs, rfl, _⟩ := h
    rfl
  have hu := hu_of hr
  refine ⟨_, pss_cons (ps_set (i := 3) scDn.nd rfl (.inl rfl) (pe_tupF pa_nil))
    (pss_cons (ps_set (i := 4) scDn.nd rfl (.inl rfl) (pe_callTy call_tupRow (by rfl) B.tuple (by decide +kernel) (pa_cons (pv 2) pa_nil)))
    (pss_cons (ps_setDc (i := 5) (own := [("who", 6)]) (g := gName 6) (tt := tYes) (tk := tVar 6) (tv := tC (.bl true)) rfl scDn.nd rfl rfl (by rfl) (pi_tup (pv 4)) (blkOk_by (N := nDn) (sc := defScope sDone) (by decide +kernel)) (fun _ _ _ _ _ => pg_name (i := 6) scDn.nd rfl (Or.inl rfl)) (fun _ _ _ _ _ => pts_nil) (fun _ _ _ _ _ => pv 6) (fun _ _ _ _ _ => pe_bl))
    (pss_cons (ps_for (passes_of rfl) rfl (pi_enum (by rfl) B.enumerate (pa_cons (pv 1) pa_nil)) (pg_tup rfl (pgs_cons (pg_name (i := 7) scDn.nd rfl (.inl rfl)) (pgs_cons (pg_name (i := 8) scDn.nd rfl (.inl rfl)) pgs_nil)))
      (pss_cons (ps_if (PW.pt (pw_or (pt_not (pt_val (pe_cal CRds hr (pa_cons (pv 8) pa_nil)))) (pw_or1 (pt_not (pt_val (pe_cal CCbd hr (pa_cons (pv 8) (pa_cons (pv 4) (pa_cons (pv 5) pa_nil)))))))))
          (pss_one (ps_raise rfl (takes_of rfl rfl rfl rfl) (pmk_oex (k := 1) T.T T.iC T.tI FI (hr.rm.mono (by omega)) bI .nil pass0 (by rfl) T.gC (pa_cons (pv 7) pa_nil))))
          pss_nil)
        pss_never))
    pss_never))), ?_⟩
  obtain ⟨a, p, e, olds, q1, rs, rfl, hp, hq, he, lo, q⟩ := h
  refine ⟨(by show 0 ≤ sizeLine; decide), fun sv0 H1 s1 n1 e1 => ?_⟩
  refine ⟨.ref e, rfl, e, olds, rfl, he.same s1, fun t0 H2 s2 e2 => ?_⟩
  have s02 := s1.trans s2
  refine ⟨.ref t0, rfl, t0, rfl, ⟨_, e2.sq⟩, fun D hD => ?_⟩
  refine dc_it (walk_tup (xs := olds.map V.str)) (fun i H' => ∃ kvs, Same H2 H' ∧ H' D = some (.dK kvs) ∧ kvs.length ≤ i) ?_ ?_ ?_ ?_
  · exact ⟨[], same_upd hD, upd_same, Nat.le_refl _⟩
  · rintro i H' _ ⟨kvs, s3, _⟩
    exact (e2.same s3).sq
  · rintro i v H3' H3 hi ⟨kvs, s3, d3, l3⟩ ⟨rfl, ev⟩
    obtain ⟨z, hz, rfl⟩ := at_map ev
    rw [List.length_map] at hi
    refine ⟨rfl, _, rfl, kvs, .inr z, rfl, d3, small1000 (by omega), putK kvs (.inr z) (.bl true), fun b o w => ?_, upd_same, ?_⟩
    · rw [upd_ne (ne_of_none w hD)]
      exact s3 _ _ w
    · have := putK_lenK (kvs := kvs) (k := .inr z) (v := V.bl true)
      omega
  rintro H3 ⟨kvs, s3, d3, l3⟩
  have s03 := s02.trans s3
  have p3 := s03 _ _ hp
  refine ⟨_, rfl, p, _, rfl, .inl (.inl p3), ?_⟩
  refine for_it (walk_enum (xs := refsR (q1 :: rs))) (fun i σ H' => i = 0 ∧ ∃ (y6 y7 y8 : Option V), σ = [some (.ref a), some (.ref p), some (.ref e), some (.ref sv0), some (.ref t0), some (.ref D), y6, y7, y8] ∧ Same H H') ?_ ?_ ?_ ?_
  · exact ⟨rfl, _, _, _, rfl, s03⟩
  · rintro i σ H' _ ⟨_, _, _, _, _, s⟩
    exact .inl (.inl (s _ _ hp))
  · rintro i v σ H4 H5 hi ⟨rfl, y6, y7, y8, rfl, s4⟩ ⟨T1, u1, u2, rfl, nT, rfl, ex1, ex2⟩
    cases ex1
    cases ex2
    have sT := same_upd (o := .tup [.int ((0 : Nat) : Int), .ref q1.1]) nT
    have s5 := s4.trans sT
    refine ⟨T1, _, rfl, .inl (.inl upd_same), rfl, _, _, rfl, _, _, rfl, rfl, ?_⟩
    refine ⟨_, rfl, q1, rfl, hq.same s5, fun H6 s6 => ⟨false, rfl, ?_⟩⟩
    have s06 := s5.trans s6
    refine ⟨_, rfl, (by show 1 ≤ 1000; decide), fun x hx => ⟨x, rfl, upd_same, fun dx h1 h2 => ⟨rfl, dx, [("number", .int 0)], upd_same, (upd_ne h2).trans upd_same, ?_, ?_⟩⟩⟩
    · rw [upd_ne h2] at h1
      exact h1
    · rw [upd_ne h2] at h1
      refine q dx _ (fun b o' z => ?_) (s06.free h1)
      have nb1 : b ≠ dx := ne_of_none z (s06.free h1)
      have nb2 : b ≠ x := ne_of_none z (s06.free hx)
      rw [upd_ne nb1, del_ne nb2, upd_ne nb2, upd_ne nb1, upd_ne nb2]
      exact s06 _ _ z
  · rintro σ H4 ⟨h0, _⟩
    exact absurd h0 (by unfold refsR; simp)
theorem cal_doneX {C f fI D : Addr} {fdI : FuncData} {oc : Value} {od an : Option Addr} {osl : Array (Option Value)} {doc pm cdv ct : Value}
    (l : K.lookup f = some ⟨oc, od, .func (PySem.W.fnOf "done" "done" (defArgs sDone) (defBody sDone) (defScope sDone) .none (.ref D) doc pm an cdv ct), osl⟩) (c : PySem.W.codeIn K cdv "done" = true) (kp : PySem.W.keepIn K (.ref f) = true) (hm : mg "done" = some (.ref f))
    (B : Blt mg) (T : BadC K mg C fI) (FI : L2.FnOk P w K mg base L2.CX0 1 fI fdI nBadI (spBadI K C)) (bI : Binds K fdI nBadI []) (CRds : Cal P w K mg base 2 "reads_as_deed" ["thing"] spRdsX) (CCbd : Cal P w K mg base 1 "can_be_done" ["deed", "row", "been"] spCanBe) : CalKX P w K mg base 6 "done" pDn 2 "row" (spDoneX C) :=
  calkX_mk l c kp hm (ok_doneX B T FI bI CRds CCbd (fun_mk l c kp)) (fun _ _ _ _ _ _ us ws h1 h2 => match us, ws, h1, h2 with | [_, _], [_], _, _ => rfl)
theorem ok_shHX {C f fI : Addr} {fd : FuncData} (B : Blt mg) (T : BadC K mg C fI) (CDn : CalKX P w K mg base 6 "done" pDn 2 "row" (spDoneX C)) (F : Fun K "shows_history" "shows_history" sShowsH f fd) : FnOk P w K mg base CX0 7 f fd pShH spShHX := by
  refine fok F scShH (fun vs H Q E h => ?_) (fun cdv A outer s H vs Q E hr h => ?_)
  · obtain ⟨a, p, e, sv, r, olds, rs, rfl, _⟩ := h
    rfl
  have hu := hu_of hr
  refine ⟨_, pss_cons (ps_if (PW.pt (pw_or (pt_not (pt_val (pe_callB call_isi (by rfl) B.isinstance (by decide +kernel) (pa_cons (pv 3) (pa_cons (pe_bltn (v := .ty "list") (by rfl) B.list (by decide +kernel) rfl) pa_nil))))) (pw_or1 (pt_not (pt_val (pe_callB (cr_all rfl) (by rfl) B.all (by decide +kernel) (pa_cons (pe_lc (own := [("deed", 5)]) (g := gName 5) (tt := tYes) (te := tCB (rIsi K) (tCons (tVar 5) (tCons (tC (.ty "tuple")) tNil))) rfl scShH.nd (pi_list (pv 3)) (blkOk_by (N := nShH) (sc := defScope sShowsH) (by decide +kernel)) (fun _ _ _ _ _ => pg_name (i := 5) scShH.nd rfl (Or.inl rfl)) (fun _ _ _ _ _ => pts_nil) (fun _ _ _ _ _ => pe_callB call_isi (by rfl) B.isinstance (by decide +kernel) (pa_cons (pv 5) (pa_cons (pe_bltn (v := .ty "tuple") (by rfl) B.tuple (by decide +kernel) rfl) pa_nil)))) pa_nil)))))))
      (pss_one (ps_ret pe_bl))
      pss_nil)
    (pss_one (ps_try_only (tb := fun W => tRet (tOp (rEqD K) (tCallNX 2 1 (spDoneX C) (fun vs zs => vs ++ zs) (L2.WE W) (tCons (tVar 0) (tCons (tVar 3) tNil)) (tCons (tVar 4) tNil)) (tTupF (tCons (tCB rTupRow (tCons (tVar 1) tNil)) (tCons (tCB rTupRow (tCons (tVar 2) tNil)) tNil))))) (ts := fun _ _ _ => tRet (tC (.bl false))) rfl rfl ⟨rfl, by decide, .inl T.gC⟩ takes0 (fun W pn xe tk _ => pss_one (ps_ret (pe_cmpR (op_eqD hr.units) (pe_calkX CDn hr tk (pa_cons (pv 0) (pa_cons (pv 3) pa_nil)) (pk_cons (pv 4) pk_nil)) (pe_tupF (pa_cons (pe_callTy call_tupRow (by rfl) B.tuple (by decide +kernel) (pa_cons (pv 1) pa_nil)) (pa_cons (pe_callTy call_tupRow (by rfl) B.tuple (by decide +kernel) (pa_cons (pv 2) pa_nil)) pa_nil))) (nomark _))))
      (fun a oe cls d pn _ _ => pss_one (ps_ret pe_bl)))), ?_⟩
  obtain ⟨a, p, e, sv, r, olds, rs, rfl, hp, hrs, ne, ln, he, lo, q⟩ := h
  refine ⟨_, rfl, _, _, _, _, true, rfl, .ty _, .base (.lst hp), kit_ty (by decide +kernel), _, rfl, ?_⟩
  refine ⟨_, rfl, p, rfl, ⟨_, .inl (.inl hp)⟩, fun D hD => ?_⟩
  have rl : (refsR rs).length = rs.length := by unfold refsR; rw [List.length_map]
  refine lc_vals (walk_list (xs := refsR rs)) (fun _ => .bl true) (by rw [rl]; omega) hD (fun H' s => .inl (.inl (s _ _ hp))) ?_ ?_
  · rintro j v H1 H1' kk hj s1 ⟨rfl, ex⟩ k1
    obtain ⟨q1, hq, rfl⟩ := at_map ex
    exact ⟨rfl, _, rfl, _, _, _, _, true, rfl, .ty _, (show TupX _ q1.1 _ from .inr ((hrs q1 (List.mem_of_getElem? hq)).1.same s1)).ty, kit_ty (by decide +kernel), k1 _ (Same.refl _)⟩
  intro H1 s1 e1
  rw [trues_all] at e1
  refine ⟨D, _, rfl, .inl (.inl e1), ?_⟩
  rw [show (List.replicate (refsR rs).length true).all id = true by simp]
  refine ⟨_, rfl, ?_⟩
  cases rs with
  | nil => exact absurd rfl ne
  | cons q1 rs =>
    refine ⟨_, rfl, _, rfl, _, rfl, rfl, rfl, a, p, e, olds, q1, rs, rfl, s1 _ _ hp, (hrs q1 List.mem_cons_self).same s1, he.same s1, lo, fun d H2 s2 n2 => ?_⟩
    exact ⟨true, T.te, fun _ x hx => q _ (s1.trans s2), fun z => nomatch z⟩
theorem cal_shHB {C fI f D E E1 : Addr} {oc : Value} {od an ed : Option Addr} {osl es : Array (Option Value)} {doc pm cdv ct : Value} {en : Nat}
    (l : K.lookup f = some ⟨oc, od, .func (PySem.W.fnOf "shows_history" "shows_history" (defArgs sShowsH) (defBody sShowsH) (defScope sShowsH) .none (.ref D) doc pm an cdv ct), osl⟩) (c : PySem.W.codeIn K cdv "shows_history" = true) (kp : PySem.W.keepIn K (.ref f) = true) (n : PySem.W.nsIn K D "elders" = some (some (.ref E)))
    (e : K.lookup E = some ⟨.type "tuple", ed, .seq #[] en, es⟩) (hm : mg "shows_history" = some (.ref f)) (B : Blt mg) (T : BadC K mg C fI) (CD : CalKX P w K mg base 6 "done" pDn 2 "row" (spDoneX C)) (CDn : CalK P w K mg base 6 "done" ["friends", "deeds", "row"] 2 "row" spDone E1) : CalK P w K mg base 7 "shows_history" ["friends", "served", "row", "thing", "elders"] 4 "elders" spShHB E :=
  calk_mk l c kp n e hm ((ok_shH B CDn (fun_mk l c kp)).or (ok_shHX B T CD (fun_mk l c kp))) rfl (fun _ _ _ _ _ _ us ws h1 h2 => match us, ws, h1, h2 with | [_, _, _, _], [_], _, _ => rfl)
    (fun _ _ _ _ _ _ us ks h1 h2 => match us, ks, h1, h2 with | [_, _, _, _], [_], _, _ => ⟨_, _, _, _, _, _, rfl, rfl, rfl⟩)
/-! ### is_number -/
abbrev sIsNum : Stmt := topS 8
abbrev nIsNum : List Str := ["thing"]
abbrev pIsNum : List Str := ["thing"]
theorem scIsNum : FnScope nIsNum pIsNum (defScope sIsNum) := ⟨rfl, rfl, rfl, by decide +kernel, rfl, by decide +kernel, by decide +kernel⟩
-- slots: 0:thing
theorem ok_isNum {f : Addr} {fd : FuncData} (B : Blt mg)  (F : Fun K "is_number" "is_number" sIsNum f fd) : FnOk P w K mg base CX0 1 f fd pIsNum spIsNum := by
  refine fok F scIsNum (fun vs H Q E h => ?_) (fun cdv A outer s H vs Q E hr h => ?_)
  · obtain ⟨i, rfl, _⟩ := h
    rfl
  have hu := hu_of hr
  refine ⟨_, pss_one (ps_ret (pe_and (pe_callB call_isi (by rfl) B.isinstance (by decide +kernel) (pa_cons (pv 0) (pa_cons (pe_bltn (v := .ty "int") (by rfl) B.int (by decide +kernel) rfl) pa_nil))) (pe_one (pe_not (pe_callB call_isi (by rfl) B.isinstance (by decide +kernel) (pa_cons (pv 0) (pa_cons (pe_bltn (v := .ty "bool") (by rfl) B.bool (by decide +kernel) rfl) pa_nil))))))), ?_⟩
  obtain ⟨i, rfl, q⟩ := h
  refine ⟨_, rfl, _, _, _, _, true, rfl, .ty _, .base (.int i), kit_ty (by decide +kernel), true, rfl, ?_⟩
  exact ⟨_, rfl, _, _, _, _, false, rfl, .ty _, .base (.int i), kit_ty (by decide +kernel), false, rfl, q H (Same.refl _)⟩
/-! ### shows_histories -/
abbrev sShHs : Stmt := topS 47
abbrev nShHs : List Str := ["friends", "parts", "thing", "between", "row", "elders", "deeds"]
abbrev pShHs : List Str := ["friends", "parts", "thing"]
theorem scShHs : FnScope nShHs pShHs (defScope sShHs) := ⟨rfl, rfl, rfl, by decide +kernel, rfl, by decide +kernel, by decide +kernel⟩
-- slots: 0:friends 1:parts 2:thing 3:between 4:row 5:elders 6:deeds
theorem ok_shHs {f : Addr} {fd : FuncData} (B : Blt mg) {E1 : Addr} (CShH : CalK P w K mg base 7 "shows_history" ["friends", "served", "row", "thing", "elders"] 4 "elders" spShowsH E1) (F : Fun K "shows_histories" "shows_histories" sShHs f fd) : FnOk P w K mg base CX0 8 f fd pShHs spShHs := by
  refine fok F scShHs (fun vs H Q E h => ?_) (fun cdv A outer s H vs Q E hr h => ?_)
  · obtain ⟨a, p, t, ps, ts, hs, rfl, _⟩ := h
    rfl
  have hu := hu_of hr
  refine ⟨_, pss_cons (ps_if (pt_cmpR op_ne (pe_callB call_len_seq (by rfl) B.len PySem.boot_len (pa_cons (pv 2) pa_nil)) (pe_callB call_len_seq (by rfl) B.len PySem.boot_len (pa_cons (pv 1) pa_nil)) (nomark _))
      (pss_one (ps_ret pe_bl))
      pss_nil)
    (pss_cons (ps_for PassesOwn.never rfl (pi_zip (by rfl) B.zip (pa_cons (pv 1) (pa_cons (pv 2) pa_nil))) (pg_tup rfl (pgs_cons (pg_tup rfl (pgs_cons (pg_name (i := 3) scShHs.nd rfl (.inl rfl)) (pgs_cons (pg_name (i := 4) scShHs.nd rfl (.inl rfl)) (pgs_cons (pg_name (i := 5) scShHs.nd rfl (.inl rfl)) pgs_nil)))) (pgs_cons (pg_name (i := 6) scShHs.nd rfl (.inl rfl)) pgs_nil)))
      (pss_one (ps_if (pt_not (pt_val (pe_calk CShH hr (pa_cons (pv 0) (pa_cons (pv 3) (pa_cons (pv 4) (pa_cons (pv 6) pa_nil)))) (pk_cons (pv 5) pk_nil))))
          (pss_one (ps_ret pe_bl))
          pss_nil)))
    (pss_one (ps_ret pe_bl))), ?_⟩
  obtain ⟨a, p, t, ps, ts, hs, rfl, ha, hpl, hp, hts, ht, len, each, q⟩ := h
  have lts : (refsP ts).length = ts.length := by unfold refsP; rw [List.length_map]
  refine ⟨_, rfl, t, _, rfl, .inl (.inl (.inl ht)), _, rfl, p, _, rfl, .inl (.inl (.inl hp)), rfl, _, rfl, ite2 (fun c => ?_) (fun _ => ?_)⟩
  · rw [List.length_map, lts, len] at c
    simp at c
  have hn : ts.length = min (refsP ts).length (hs.map fun q => V.ref q.1).length := by
    rw [lts, List.length_map]
    omega
  refine ⟨_, rfl, _, rfl, p, t, _, _, rfl, .inl (.inl hp), .inl (.inl ht), ?_⟩
  refine for_it (walk_zipL hn) (fun i σ H' => ∃ (y3 y4 y5 y6 : Option V), σ = [some (.ref a), some (.ref p), some (.ref t), y3, y4, y5, y6] ∧ Same H H') ?_ ?_ ?_ ?_
  · exact ⟨_, _, _, _, rfl, Same.refl _⟩
  · rintro i σ H' _ ⟨_, _, _, _, _, s1⟩
    exact ⟨.inl (.inl (s1 _ _ hp)), .inl (.inl (s1 _ _ ht))⟩
  · rintro i v σ H2 H3 hi ⟨y3, y4, y5, y6, rfl, s2⟩ ⟨T, x, y, rfl, nT, rfl, ex, ey⟩
    obtain ⟨s, hs1, rfl⟩ := at_map ex
    obtain ⟨h1, hh1, rfl⟩ := at_map ey
    have sT := same_upd (o := .tup [.ref s.1, .ref h1.1]) nT
    have s03 := s2.trans sT
    obtain ⟨k1, k2, k3, k4⟩ := (hts s (List.mem_of_getElem? hs1)).same s03
    obtain ⟨d1, d2, d3, d4, d5⟩ := each i h1 s hh1 hs1
    refine ⟨T, _, rfl, .inl (.inl upd_same), rfl, _, _, rfl, s.1, _, rfl, k1.sq, rfl, _, _, rfl, _, _, rfl, _, _, rfl, rfl, _, _, rfl, rfl, ?_⟩
    refine ⟨_, rfl, _, rfl, _, rfl, _, rfl, _, rfl, rfl, rfl, a, s.2.1, s.2.2.1, h1.1, s.2.2.2.1, ps, s.2.2.2.2.2.2, s.2.2.2.2.1, s.2.2.2.2.2.1, h1.2, rfl, ha.same s03, hpl, .inl k2, .inl k3, s03 _ _ d1, d2.same s03, hist_names d4 d5, .inl k4, by rw [List.length_map] at d3; exact d3, (fun x hx => (d4 x hx).good), d5, fun H4 s4 => ⟨true, rfl, ?_⟩⟩
    exact ⟨_, _, _, _, rfl, s03.trans s4⟩
  · rintro σ H2 ⟨y3, y4, y5, y6, rfl, s2⟩
    exact q H2 s2
/-! ### shows_none -/
abbrev sShNo : Stmt := topS 48
abbrev nShNo : List Str := ["friends", "parts", "number", "paper", "between", "row", "elders"]
abbrev pShNo : List Str := ["friends", "parts", "number", "paper"]
theorem scShNo : FnScope nShNo pShNo (defScope sShNo) := ⟨rfl, rfl, rfl, by decide +kernel, rfl, by decide +kernel, by decide +kernel⟩
-- slots: 0:friends 1:parts 2:number 3:paper 4:between 5:row 6:elders
theorem ok_shNo {f : Addr} {fd : FuncData} (B : Blt mg) (CIsNum : Cal P w K mg base 1 "is_number" ["thing"] spIsNum) {E1 : Addr} (CShN : CalK P w K mg base 4 "shows_never" ["friends", "served", "row", "thing", "elders"] 4 "elders" spNevT E1) (F : Fun K "shows_none" "shows_none" sShNo f fd) : FnOk P w K mg base CX0 5 f fd pShNo spShNo := by
  refine fok F scShNo (fun vs H Q E h => ?_) (fun cdv A outer s H vs Q E hr h => ?_)
  · obtain ⟨a, p, x, i, ps, ts, s, rs, rfl, _⟩ := h
    rfl
  have hu := hu_of hr
  refine ⟨_, pss_cons (ps_if (PW.pt (pw_or (pt_not (pt_val (pe_cal CIsNum hr (pa_cons (pv 2) pa_nil)))) (pw_or1 (pt_not (pt_chain op_le op_lt pe_int (pv 2) (pe_callB call_len_seq (by rfl) B.len PySem.boot_len (pa_cons (pv 1) pa_nil)))))))
      (pss_one (ps_ret pe_bl))
      pss_nil)
    (pss_cons (ps_asg (pe_ix ix_list (pv 1) (pv 2) (fun _ _ => rfl)) (pg_tup rfl (pgs_cons (pg_name (i := 4) scShNo.nd rfl (.inl rfl)) (pgs_cons (pg_name (i := 5) scShNo.nd rfl (.inl rfl)) (pgs_cons (pg_name (i := 6) scShNo.nd rfl (.inl rfl)) pgs_nil)))))
    (pss_one (ps_ret (pe_calk CShN hr (pa_cons (pv 0) (pa_cons (pv 4) (pa_cons (pv 5) (pa_cons (pv 3) pa_nil)))) (pk_cons (pv 6) pk_nil))))), ?_⟩
  obtain ⟨a, p, x, i, ps, ts, s, rs, rfl, ha, hpl, hp, hs, ⟨k1, k2, k3, k4⟩, hx, hrs, ⟨nm, nd, ln, ok⟩, q⟩ := h
  have hi : i < ts.length := (List.getElem?_eq_some_iff.mp hs).1
  have lts : (refsP ts).length = ts.length := by unfold refsP; rw [List.length_map]
  refine ⟨_, rfl, _, rfl, fun H1 s1 => ⟨true, rfl, ?_⟩⟩
  refine ⟨_, rfl, _, _, rfl, rfl, _, rfl, ?_⟩
  rw [show decide ((0 : Int) ≤ ((i : Nat) : Int)) = true from decide_eq_true (by omega)]
  refine iteT ⟨_, rfl, p, _, rfl, .inl (.inl (.inl (s1 _ _ hp))), _, _, rfl, rfl, _, rfl, ?_⟩
  rw [lts, show decide (((i : Nat) : Int) < ((ts.length : Nat) : Int)) = true from decide_eq_true (by omega)]
  refine ⟨_, rfl, _, rfl, p, _, _, _, rfl, rfl, .inl (.inl (s1 _ _ hp)), atI_nat (ix_map hs), ?_⟩
  refine ⟨s.1, _, rfl, (k1.same s1).sq, rfl, _, _, rfl, _, _, rfl, _, _, rfl, rfl, ?_⟩
  exact ⟨_, rfl, _, rfl, _, rfl, _, rfl, _, rfl, rfl, rfl, a, s.2.1, s.2.2.1, x, s.2.2.2.1, ps, s.2.2.2.2.2.2, s.2.2.2.2.1, s.2.2.2.2.2.1, rs, rfl, ha.same s1, hpl, .inl (k2.same s1), .inl (k3.same s1), k4.same s1, nm, nd, ln, s1 _ _ hx, ReasonsAt.same' s1 hrs, ok, fun H2 s2 => q H2 (s1.trans s2)⟩
/-! ### shows_seen -/
abbrev sShSe : Stmt := topS 49
abbrev nShSe : List Str := ["friends", "served", "sights", "thing", "parts"]
abbrev pShSe : List Str := ["friends", "served", "sights", "thing"]
theorem scShSe : FnScope nShSe pShSe (defScope sShSe) := ⟨rfl, rfl, rfl, by decide +kernel, rfl, by decide +kernel, by decide +kernel⟩
-- slots: 0:friends 1:served 2:sights 3:thing 4:parts
theorem ok_shSe {f : Addr} {fd : FuncData} (B : Blt mg) (CShHs : Cal P w K mg base 8 "shows_histories" ["friends", "parts", "thing"] spShHs) (CShNo : Cal P w K mg base 5 "shows_none" ["friends", "parts", "number", "paper"] spShNo) (CStre : Cal P w K mg base 2 "stretches" ["served", "sights"] spStretch) (F : Fun K "shows_seen" "shows_seen" sShSe f fd) : FnOk P w K mg base CX0 9 f fd pShSe spShSe := by
  refine fok F scShSe (fun vs H Q E h => ?_) (fun cdv A outer s H vs Q E hr h => ?_)
  · obtain ⟨a, sv, p, x, ps, gone, qs, rfl, _⟩ := h
    rfl
  have hu := hu_of hr
  refine ⟨_, pss_cons (ps_set (i := 4) scShSe.nd rfl (.inl rfl) (pe_cal CStre hr (pa_cons (pv 1) (pa_cons (pv 2) pa_nil))))
    (pss_cons (ps_if (pt_val (pe_callB call_isi (by rfl) B.isinstance (by decide +kernel) (pa_cons (pv 3) (pa_cons (pe_bltn (v := .ty "list") (by rfl) B.list (by decide +kernel) rfl) pa_nil))))
      (pss_one (ps_ret (pe_cal CShHs hr (pa_cons (pv 0) (pa_cons (pv 4) (pa_cons (pv 3) pa_nil))))))
      pss_nil)
    (pss_cons (ps_if (PW.pt (pw_or (pt_not (pt_val (pe_callB call_isi (by rfl) B.isinstance (by decide +kernel) (pa_cons (pv 3) (pa_cons (pe_bltn (v := .ty "tuple") (by rfl) B.tuple (by decide +kernel) rfl) pa_nil))))) (pw_or1 (pt_cmpR op_ne (pe_callB call_len_seq (by rfl) B.len PySem.boot_len (pa_cons (pv 3) pa_nil)) pe_int (nomark _)))))
      (pss_one (ps_ret pe_bl))
      pss_nil)
    (pss_one (ps_ret (pe_cal CShNo hr (pa_cons (pv 0) (pa_cons (pv 4) (pa_cons (pe_ix ix_tup (pv 3) pe_int (fun _ _ => rfl)) (pa_cons (pe_ix ix_tup (pv 3) pe_int (fun _ _ => rfl)) pa_nil))))))))), ?_⟩
  obtain ⟨a, sv, p, x, ps, gone, qs, rfl, ha, hpl, irr, hsv, hp, hqs, ne, lq, fine, gg, gs, th, q⟩ := h
  have ok := parts_ok fine
  have gss : ∀ s ∈ qs.map sgOf, (∀ x ∈ s.2, NameOk x) ∧ gone.length + s.2.length ≤ 40 := fun s hs => by
    obtain ⟨q0, mq0, rfl⟩ := List.mem_map.mp hs
    exact gs q0 mq0
  refine ⟨_, rfl, _, rfl, sv, p, gone, qs, rfl, hsv, hp, hqs, ne, lq, fun i x y h1 h2 => ⟨(ok i x y h1 h2).le, (ok i x y h1 h2).lg⟩, fun l ts H1 s1 nl hl hts mts => ?_⟩
  have lts : ts.length = (partsS gone (qs.map sgOf)).length := by rw [← mts, List.length_map]
  have ptAt : ∀ (i : Nat) (s : LT), ts[i]? = some s → (partsS gone (qs.map sgOf))[i]? = some s.2.2.2.2 := fun i s e => by
    rw [← mts, List.getElem?_map, e]
    rfl
  rcases th.same s1 with ⟨hs, h2, h3, h4⟩ | ⟨i, pt, p', rs, h2, h3, h5, h6, h7, h8⟩
  · refine ⟨_, rfl, _, _, _, _, true, rfl, .ty _, .base (.lst h2), kit_ty (by decide +kernel), true, rfl, ?_⟩
    refine ⟨_, rfl, _, rfl, _, rfl, a, l, x, ps, ts, hs, rfl, ha.same s1, hpl, hl, hts, h2, by omega, fun i h s e1 e2 => ?_, fun H2 s2 => q H2 (s1.trans s2)⟩
    obtain ⟨z1, z2, z3, z4⟩ := h4 i h _ e1 (ptAt i s e2)
    obtain ⟨g1, g2, g3, g4, g5, g6⟩ := part_names fine gg gss (ptAt i s e2)
    refine ⟨z2, z3, ?_⟩
    rw [z4]
    exact part_hist irr g1 g2 g3 g6 z1
  · refine ⟨_, rfl, _, _, _, _, false, rfl, .ty _, (show TupX _ x _ from .inr h2).ty, kit_ty (by decide +kernel), false, rfl, ?_⟩
    refine ⟨_, rfl, _, _, _, _, true, rfl, .ty _, (show TupX _ x _ from .inr h2).ty, kit_ty (by decide +kernel), true, rfl, ?_⟩
    refine ⟨_, rfl, x, _, rfl, .inr h2.sq, rfl, false, rfl, ?_⟩
    obtain ⟨s, hs⟩ : ∃ s, ts[i]? = some s := ⟨_, List.getElem?_eq_getElem (by rw [lts]; exact (List.getElem?_eq_some_iff.mp h3).1)⟩
    have e : s.2.2.2.2 = pt := Option.some.inj ((ptAt i s hs).symm.trans h3)
    obtain ⟨g1, g2, g3, g4, g5, g6⟩ := part_names fine gg gss h3
    refine ⟨_, rfl, _, rfl, _, rfl, x, _, 0, _, rfl, rfl, h2.sq, rfl, _, rfl, x, _, 1, _, rfl, rfl, h2.sq, rfl, a, l, p', i, ps, ts, s, rs, rfl, ha.same s1, hpl, hl, hs, hts s (List.mem_of_getElem? hs), h6, h7, ?_, fun H2 s2 => q H2 (s1.trans s2)⟩
    rw [e]
    exact ⟨g1, g2, g4, (told_paper irr g2 g6 h5 h8).1⟩
/-! ### _law_spoil_told -/
abbrev sSpt : Stmt := topS 64
abbrev nSpt : List Str := ["_law_told"]
abbrev pSpt : List Str := ["_law_told"]
theorem scSpt : FnScope nSpt pSpt (defScope sSpt) := ⟨rfl, rfl, rfl, by decide +kernel, rfl, by decide +kernel, by decide +kernel⟩
-- slots: 0:told
theorem ok_spt {f : Addr} {fd : FuncData} (B : Blt mg)  (F : Fun K "_law_spoil_told" "_law_spoil_told" sSpt f fd) : FnOk P w K mg base CX0 1 f fd pSpt spSpt := by
  refine fok F scSpt (fun vs H Q E h => ?_) (fun cdv A outer s H vs Q E hr h => ?_)
  · obtain ⟨T, p, ys, rfl, _⟩ := h
    rfl
  have hu := hu_of hr
  refine ⟨_, pss_one (ps_if (pt_val (pe_callB call_isi (by rfl) B.isinstance (by decide +kernel) (pa_cons (pe_ix ix_tup (pv 0) pe_int (fun _ _ => rfl)) (pa_cons (pe_bltn (v := .ty "list") (by rfl) B.list (by decide +kernel) rfl) pa_nil))))
      (pss_one (ps_expr (pe_bm PySem.F.plainAttrs_list PySem.F.slot_list_append PySem.F.type_list_append mt_append (pe_ix ix_tup (pv 0) pe_int (fun _ _ => rfl)) (pa_cons pe_str pa_nil))))
      (pss_one (ps_expr (pe_bm PySem.F.plainAttrs_list PySem.F.slot_list_append PySem.F.type_list_append mt_append (pe_ix ix_tup (pe_ix ix_tup (pv 0) pe_int (fun _ _ => rfl)) pe_int (fun _ _ => rfl)) (pa_cons pe_str pa_nil))))), ?_⟩
  obtain ⟨T, p, ys, rfl, hp, ln, told, q⟩ := h
  rcases told with ⟨x, hT⟩ | ⟨U, x, y, hT, hU⟩
  · refine ⟨_, rfl, T, _, 1, _, rfl, rfl, hT.sq, atI_nat (j := 1) rfl, _, _, _, _, true, rfl, .ty _, .base (.lst hp), kit_ty (by decide +kernel), _, rfl, ?_⟩
    refine ⟨_, rfl, T, _, 1, _, rfl, rfl, hT.sq, atI_nat (j := 1) rfl, .inl ⟨rfl, _, .inl (.inl hp)⟩, p, _, _, rfl, rfl, hp, small1000 (by omega), q⟩
  · refine ⟨_, rfl, T, _, 1, _, rfl, rfl, hT.sq, atI_nat (j := 1) rfl, _, _, _, _, false, rfl, .ty _, (show TupX _ _ _ from .inr hU).ty, kit_ty (by decide +kernel), _, rfl, ?_⟩
    refine ⟨_, rfl, T, _, 1, _, rfl, rfl, hT.sq, atI_nat (j := 1) rfl, U, _, 1, _, rfl, rfl, hU.sq, atI_nat (j := 1) rfl, .inl ⟨rfl, _, .inl (.inl hp)⟩, p, _, _, rfl, rfl, hp, small1000 (by omega), q⟩
/-! ### _law_line_right -/
abbrev sLnR : Stmt := topS 65
abbrev nLnR : List Str := ["_law_pals_here", "_law_olds", "_law_gone", "_law_stand", "_law_mine", "_law_told", "_law_kept", "_law_lists", "_law_pair", "_law_same_here", "_law_one", "_law_never", "_law_times", "_law_some", "_law_again"]
abbrev pLnR : List Str := ["_law_pals_here", "_law_olds", "_law_gone", "_law_stand", "_law_mine"]
theorem scLnR : FnScope nLnR pLnR (defScope sLnR) := ⟨rfl, rfl, rfl, by decide +kernel, rfl, by decide +kernel, by decide +kernel⟩
-- slots: 0:pals_here 1:olds 2:gone 3:stand 4:mine 5:told 6:kept 7:lists 8:pair 9:same_here 10:one 11:never 12:times 13:some 14:again
theorem ok_lnR {f : Addr} {fd : FuncData} (B : Blt mg) (CSa : Cal P w K mg base 2 "_law_same" ["_law_found", "_law_due"] (spSame 2)) (CSpt : Cal P w K mg base 1 "_law_spoil_told" ["_law_told"] spSpt) {E1 : Addr} (CHst : CalK P w K mg base 6 "history_of" ["friends", "served", "row", "elders"] 3 "elders" (spHistN K) E1) (CHstN : CalN P w K mg base 6 "history_of" ["friends", "served", "row", "elders"] ["elders", "row", "served", "friends"] [3, 2, 1, 0] (spHistN K))
    {E2 : Addr} (CNv : CalK P w K mg base 6 "never_in" ["friends", "served", "row", "elders"] 3 "elders" (spNever K) E2) (CNvN : CalN P w K mg base 6 "never_in" ["friends", "served", "row", "elders"] ["row", "friends", "elders", "served"] [1, 3, 0, 2] (spNever K))
    {E3 : Addr} (CShH : CalK P w K mg base 7 "shows_history" ["friends", "served", "row", "thing", "elders"] 4 "elders" spShHU E3) (CShHN : CalN P w K mg base 7 "shows_history" ["friends", "served", "row", "thing", "elders"] ["thing", "row", "elders", "served", "friends"] [4, 3, 1, 0, 2] spShHU)
    {E4 : Addr} (CShN : CalK P w K mg base 4 "shows_never" ["friends", "served", "row", "thing", "elders"] 4 "elders" spShNU E4) (CShNN : CalN P w K mg base 4 "shows_never" ["friends", "served", "row", "thing", "elders"] ["thing", "row", "elders", "served", "friends"] [4, 3, 1, 0, 2] spShNU)
    {E5 : Addr} (CTm : CalK P w K mg base 6 "times_of" ["friends", "served", "row", "who", "elders"] 4 "elders" (spTimes K) E5) (CTmN : CalN P w K mg base 6 "times_of" ["friends", "served", "row", "who", "elders"] ["who", "row", "elders", "served", "friends"] [4, 3, 1, 0, 2] (spTimes K)) (F : Fun K "_law_line_right" "_law_line_right" sLnR f fd) : FnOk P w K mg base CX0 8 f fd pLnR spLnR38 := by
  refine fok F scLnR (fun vs H Q E h => ?_) (fun cdv A outer s H vs Q E hr h => ?_)
  · obtain ⟨a, o, g, t, x, ps, olds, gn, st, rfl, _⟩ := h
    rfl
  have hu := hu_of hr
  refine ⟨_, pss_cons (ps_par (i := 5) (j := 6) (by rfl) scLnR.nd rfl rfl (by decide) rfl rfl (pa_cons (pe_calk CHst hr (pa_cons (pv 0) (pa_cons (pv 2) (pa_cons (pv 3) pa_nil))) (pk_cons (pv 1) pk_nil)) (pa_cons (pe_callB (call_reprS hr) (by rfl) B.repr (by decide +kernel) (pa_cons (pe_calk CHst hr (pa_cons (pv 0) (pa_cons (pv 2) (pa_cons (pv 3) pa_nil))) (pk_cons (pv 1) pk_nil)) pa_nil)) pa_nil)) (by rfl))
    (pss_cons (ps_set (i := 7) scLnR.nd rfl (.inl rfl) (pe_lst (pa_cons (pe_lc (own := [("_law_pair", 8)]) (g := gName 8) (tt := tYes) (te := tCB (rListOf K) (tCons (tVar 8) tNil)) rfl scLnR.nd (pi_tup (pv 0)) (blkOk_by (N := nLnR) (sc := defScope sLnR) (by decide +kernel)) (fun _ _ _ _ _ => pg_name (i := 8) scLnR.nd rfl (Or.inl rfl)) (fun _ _ _ _ _ => pts_nil) (fun _ _ _ _ _ => pe_callTy call_listN (by rfl) B.list (by decide +kernel) (pa_cons (pv 8) pa_nil))) (pa_cons (pe_callTy call_listN (by rfl) B.list (by decide +kernel) (pa_cons (pv 1) pa_nil)) (pa_cons (pe_callTy call_listN (by rfl) B.list (by decide +kernel) (pa_cons (pv 2) pa_nil)) (pa_cons (pe_callTy call_listN (by rfl) B.list (by decide +kernel) (pa_cons (pv 3) pa_nil)) pa_nil))))))
    (pss_cons (ps_set (i := 9) scLnR.nd rfl (.inl rfl) (pe_lst (pa_cons (pe_caln CHstN hr (pk_cons (pv 1) (pk_cons (pv 3) (pk_cons (pv 2) (pk_cons (pv 0) pk_nil))))) pa_nil)))
    (pss_cons (ps_expr (pe_bm PySem.F.plainAttrs_list PySem.F.slot_list_append PySem.F.type_list_append mt_append (pv 9) (pa_cons (pe_calk CHst hr (pa_cons (pe_ix ix_list (pv 7) pe_int (fun _ _ => rfl)) (pa_cons (pe_ix ix_list (pv 7) pe_int (fun _ _ => rfl)) (pa_cons (pe_ix ix_list (pv 7) pe_int (fun _ _ => rfl)) pa_nil))) (pk_cons (pe_ix ix_list (pv 7) pe_int (fun _ _ => rfl)) pk_nil)) pa_nil)))
    (pss_cons (ps_if (pt_cmpR (op_neL hr.units) (pe_lc (own := [("_law_one", 10)]) (g := gName 10) (tt := tYes) (te := tCB (rReprS K) (tCons (tVar 10) tNil)) rfl scLnR.nd (pi_list (pv 9)) (blkOk_by (N := nLnR) (sc := defScope sLnR) (by decide +kernel)) (fun _ _ _ _ _ => pg_name (i := 10) scLnR.nd rfl (Or.inl rfl)) (fun _ _ _ _ _ => pts_nil) (fun _ _ _ _ _ => pe_callB (call_reprS hr) (by rfl) B.repr (by decide +kernel) (pa_cons (pv 10) pa_nil))) (pe_lst (pa_cons (pv 6) (pa_cons (pv 6) pa_nil))) (nomark _))
      (pss_one (ps_ret pe_bl))
      pss_nil)
    (pss_cons (ps_set (i := 11) scLnR.nd rfl (.inl rfl) (pe_calk CNv hr (pa_cons (pv 0) (pa_cons (pv 2) (pa_cons (pv 3) pa_nil))) (pk_cons (pv 1) pk_nil)))
    (pss_cons (ps_if (pt_cmpR (op_neT hr.units) (pe_caln CNvN hr (pk_cons (pv 3) (pk_cons (pe_ix ix_list (pv 7) pe_int (fun _ _ => rfl)) (pk_cons (pe_ix ix_list (pv 7) pe_int (fun _ _ => rfl)) (pk_cons (pv 2) pk_nil))))) (pv 11) (nomark _))
      (pss_one (ps_ret pe_bl))
      pss_nil)
    (pss_cons (ps_set (i := 12) scLnR.nd rfl (.inl rfl) (pe_calk CTm hr (pa_cons (pv 0) (pa_cons (pv 2) (pa_cons (pv 3) (pa_cons (pv 4) pa_nil)))) (pk_cons (pv 1) pk_nil)))
    (pss_cons (ps_if (pt_cmpR (op_neI hr.units) (pe_caln CTmN hr (pk_cons (pv 4) (pk_cons (pe_ix ix_list (pv 7) pe_int (fun _ _ => rfl)) (pk_cons (pv 1) (pk_cons (pe_ix ix_list (pv 7) pe_int (fun _ _ => rfl)) (pk_cons (pv 0) pk_nil)))))) (pv 12) (nomark _))
      (pss_one (ps_ret pe_bl))
      pss_nil)
    (pss_cons (ps_set (i := 13) scLnR.nd rfl (.inl rfl) (pe_lst (pa_cons (pe_calk CShH hr (pa_cons (pv 0) (pa_cons (pv 2) (pa_cons (pv 3) (pa_cons (pe_ix ix_tup (pv 5) pe_int (fun _ _ => rfl)) pa_nil)))) (pk_cons (pv 1) pk_nil)) pa_nil)))
    (pss_cons (ps_expr (pe_bm PySem.F.plainAttrs_list PySem.F.slot_list_append PySem.F.type_list_append mt_append (pv 13) (pa_cons (pe_calk CShN hr (pa_cons (pv 0) (pa_cons (pv 2) (pa_cons (pv 3) (pa_cons (pe_ix ix_tup (pv 5) pe_int (fun _ _ => rfl)) pa_nil)))) (pk_cons (pv 1) pk_nil)) pa_nil)))
    (pss_cons (ps_expr (pe_bm PySem.F.plainAttrs_list PySem.F.slot_list_append PySem.F.type_list_append mt_append (pv 13) (pa_cons (pe_caln CShHN hr (pk_cons (pe_ix ix_tup (pv 5) pe_int (fun _ _ => rfl)) (pk_cons (pe_ix ix_list (pv 7) pe_int (fun _ _ => rfl)) (pk_cons (pe_ix ix_list (pv 7) pe_int (fun _ _ => rfl)) (pk_cons (pv 2) (pk_cons (pe_ix ix_list (pv 7) pe_int (fun _ _ => rfl)) pk_nil)))))) pa_nil)))
    (pss_cons (ps_expr (pe_bm PySem.F.plainAttrs_list PySem.F.slot_list_append PySem.F.type_list_append mt_append (pv 13) (pa_cons (pe_caln CShNN hr (pk_cons (pe_ix ix_tup (pv 5) pe_int (fun _ _ => rfl)) (pk_cons (pv 3) (pk_cons (pv 1) (pk_cons (pe_ix ix_list (pv 7) pe_int (fun _ _ => rfl)) (pk_cons (pv 0) pk_nil)))))) pa_nil)))
    (pss_cons (ps_if (pt_not (pt_val (pe_cal CSa hr (pa_cons (pv 13) (pa_cons (pe_op op_rep (pe_lst (pa_cons (pe_cmpR op_eq (pe_ix ix_tup (pv 5) pe_int (fun _ _ => rfl)) pe_str (nomark _)) (pa_cons (pe_cmpR op_eq (pe_ix ix_tup (pv 5) pe_int (fun _ _ => rfl)) pe_str (nomark _)) pa_nil))) pe_int) pa_nil)))))
      (pss_one (ps_ret pe_bl))
      pss_nil)
    (pss_cons (ps_expr (pe_cal CSpt hr (pa_cons (pv 5) pa_nil)))
    (pss_cons (ps_expr (pe_bm PySem.F.plainAttrs_list PySem.F.slot_list_append PySem.F.type_list_append mt_append (pv 12) (pa_cons pe_int pa_nil)))
    (pss_cons (ps_set (i := 14) scLnR.nd rfl (.inl rfl) (pe_lst (pa_cons (pe_callB (call_reprS hr) (by rfl) B.repr (by decide +kernel) (pa_cons (pe_calk CHst hr (pa_cons (pv 0) (pa_cons (pv 2) (pa_cons (pv 3) pa_nil))) (pk_cons (pv 1) pk_nil)) pa_nil)) pa_nil)))
    (pss_cons (ps_expr (pe_bm PySem.F.plainAttrs_list PySem.F.slot_list_append PySem.F.type_list_append mt_append (pv 14) (pa_cons (pe_callB (call_reprS hr) (by rfl) B.repr (by decide +kernel) (pa_cons (pe_calk CTm hr (pa_cons (pv 0) (pa_cons (pv 2) (pa_cons (pv 3) (pa_cons (pv 4) pa_nil)))) (pk_cons (pv 1) pk_nil)) pa_nil)) pa_nil)))
    (pss_cons (ps_if (pt_cmpR (op_neD hr.units) (pv 7) (pe_lst (pa_cons (pe_lc (own := [("_law_pair", 8)]) (g := gName 8) (tt := tYes) (te := tCB (rListOf K) (tCons (tVar 8) tNil)) rfl scLnR.nd (pi_tup (pv 0)) (blkOk_by (N := nLnR) (sc := defScope sLnR) (by decide +kernel)) (fun _ _ _ _ _ => pg_name (i := 8) scLnR.nd rfl (Or.inl rfl)) (fun _ _ _ _ _ => pts_nil) (fun _ _ _ _ _ => pe_callTy call_listN (by rfl) B.list (by decide +kernel) (pa_cons (pv 8) pa_nil))) (pa_cons (pe_callTy call_listN (by rfl) B.list (by decide +kernel) (pa_cons (pv 1) pa_nil)) (pa_cons (pe_callTy call_listN (by rfl) B.list (by decide +kernel) (pa_cons (pv 2) pa_nil)) (pa_cons (pe_callTy call_listN (by rfl) B.list (by decide +kernel) (pa_cons (pv 3) pa_nil)) pa_nil))))) (nomark _))
      (pss_one (ps_ret pe_bl))
      pss_nil)
    (pss_one (ps_ret (pe_cmpR (op_eqL hr.units) (pv 14) (pe_lst (pa_cons (pv 6) (pa_cons (pe_callB (call_reprS hr) (by rfl) B.repr (by decide +kernel) (pa_cons (pe_slice sl_list (pv 12) po_none (po_some (pe_un un_neg pe_int))) pa_nil)) pa_nil))) (nomark _)))))))))))))))))))))), ?_⟩
  obtain ⟨a, o, g, t, x, ps, olds, gn, st, rfl, hpa, hpo, irr, hpl, to, tg, tt, okw, nd, lw, sub, mx, nx, q⟩ := h
  have lo := sub.length_le
  rw [List.length_append] at lo
  have inl := inLine_sub nd sub
  have gn' : Goods gn := fun y my => (okw y (List.mem_append_left _ my)).good
  have gs' : Goods st := fun y my => (okw y (List.mem_append_right _ my)).good
  have go' : Goods olds := fun y my => (okw y (sub.subset my)).good
  have gp' : ∀ p ∈ ps, Good p.1 ∧ Good p.2 := fun p hp => by
    obtain ⟨x', y', h1, h2, h3⟩ := hpo p hp
    subst h3
    exact ⟨by show Good (lmin x' y'); unfold lmin; split <;> assumption, by show Good (lmax x' y'); unfold lmax; split <;> assumption⟩
  obtain ⟨dt, lay, dsh⟩ := told_data (K := K) irr nd sub okw (by omega)
  have gdt := good_shown dt lay
  have hk : ∀ {H' : Hp}, Same H H' → FrAt H' a ps ∧ RowAt H' g gn ∧ RowAt H' t st ∧ ButKeeps K H' o olds := fun s => ⟨(hpa.same s).fr, .inl (tg.same s), .inl (tt.same s), fun H' s' => .inr ((to.same s).same s').sq⟩
  -- told, kept
  refine ⟨_, rfl, _, rfl, _, rfl, _, rfl, rfl, rfl, a, g, t, o, ps, gn, st, olds, rfl, (hk (Same.refl _)).1, hpl, irr, (hk (Same.refl _)).2.1, (hk (Same.refl _)).2.2.1, (hk (Same.refl _)).2.2.2, inl, nd, by omega, by omega, fun T H1 s1 told new => ?_⟩
  obtain ⟨u, hT, tl⟩ := told.parts
  have nu : H u = none := new _ _ hT
  refine ⟨_, rfl, _, rfl, _, rfl, _, rfl, rfl, rfl, a, g, t, o, ps, gn, st, olds, rfl, (hk s1).1, hpl, irr, (hk s1).2.1, (hk s1).2.2.1, (hk s1).2.2.2, inl, nd, by omega, by omega, fun T2 H2 s2 told2 _ => ?_⟩
  refine ⟨_, dt, rfl, dsh _ _ told2, ⟨_, _, rfl, ?_⟩⟩
  have s02 := s1.trans s2
  -- lists
  obtain ⟨bs, ea, pb, em⟩ := hpa
  have lbs : bs.length ≤ 1000 := by
    rw [em, List.length_map] at hpl
    exact hpl
  refine ⟨.ref a, rfl, a, rfl, ⟨_, .inl (.inl (s02 _ _ ea))⟩, fun L0 hL0 => ?_⟩
  refine lc_lists (s02 _ _ ea) (fun c hc => s02 _ _ (pb c hc)) lbs hL0 (fun c H' k mc s k1 => ⟨rfl, _, rfl, c.1, _, rfl, .inr (.inl (.inl (s _ _ (s02 _ _ (pb c mc))))), k1⟩) fun H3 cs s3 eL0 ecs mcs => ?_
  have s03 := s02.trans s3
  refine ⟨_, rfl, o, _, rfl, .inr (to.same s03).sq, fun l1 hl1 => ?_⟩
  have s3a := s03.trans (same_upd (o := .lst (olds.map V.str)) hl1)
  refine ⟨_, rfl, g, _, rfl, .inr (tg.same s3a).sq, fun l2 hl2 => ?_⟩
  have s3b := s3a.trans (same_upd (o := .lst (gn.map V.str)) hl2)
  refine ⟨_, rfl, t, _, rfl, .inr (tt.same s3b).sq, fun l3 hl3 => ?_⟩
  have s3c := s3b.trans (same_upd (o := .lst (st.map V.str)) hl3)
  refine ⟨(by show 4 ≤ sizeLine; decide), fun LL hLL => ?_⟩
  have s04 := s3c.trans (same_upd (o := .lst [.ref L0, .ref l1, .ref l2, .ref l3]) hLL)
  have z1 := same_upd (o := .lst (olds.map V.str)) hl1
  have z2 := same_upd (o := .lst (gn.map V.str)) hl2
  have z3 := same_upd (o := .lst (st.map V.str)) hl3
  have z4 := same_upd (o := .lst [.ref L0, .ref l1, .ref l2, .ref l3]) hLL
  have y1 := s2.trans s3
  have y2 := y1.trans z1
  have y3 := y2.trans z2
  have y4 := y3.trans z3
  have s14 := y4.trans z4
  have zz := ((z1.trans z2).trans z3).trans z4
  have LA : ListA8 H1 _ LL ⟨cs, L0, l1, l2, l3⟩ ps olds gn st := ⟨upd_same, zz _ _ eL0, fun c hc => ⟨s2.free (ecs c hc).1, zz _ _ (ecs c hc).2⟩, by rw [mcs, em], (z2.trans (z3.trans z4)) _ _ upd_same, (z3.trans z4) _ _ upd_same, z4 _ _ upd_same, y4.free hLL, s2.free hL0, y1.free hl1, y2.free hl2, y3.free hl3⟩
  generalize upd (upd (upd (upd H3 l1 (.lst (olds.map V.str))) l2 (.lst (gn.map V.str))) l3 (.lst (st.map V.str))) LL (.lst [.ref L0, .ref l1, .ref l2, .ref l3]) = H4 at s04 s14 LA ⊢
  clear z1 z2 z3 z4 y1 y2 y3 y4 zz s3a s3b s3c hLL hl1 hl2 hl3 hL0 eL0 ecs mcs s3 s03
  have told4 := told.same s14
  have hl : ∀ {H' : Hp}, Same H4 H' → ButKeeps K H' l1 olds := fun s => fun H' s' => .inl (.inl (.inl (((LA.same s).same s').e1)))
  have hpa : PalsAt H a ps := ⟨bs, ea, pb, em⟩
  have hk : ∀ {H' : Hp}, Same H H' → FrAt H' a ps ∧ RowAt H' g gn ∧ RowAt H' t st ∧ ButKeeps K H' o olds := fun s => ⟨(hpa.same s).fr, .inl (tg.same s), .inl (tt.same s), fun H' s' => .inr ((to.same s).same s').sq⟩
  clear ea pb em lbs
  -- the same by names, and of lists
  refine ⟨_, rfl, _, rfl, _, rfl, _, rfl, rfl, rfl, a, g, t, o, ps, gn, st, olds, rfl, (hk s04).1, hpl, irr, (hk s04).2.1, (hk s04).2.2.1, (hk s04).2.2.2, inl, nd, by omega, by omega, fun T5 H5 s5 told5 _ => ?_⟩
  refine ⟨(by show 1 ≤ sizeLine; decide), fun SH hSH => ?_⟩
  have s6 := same_upd (o := .lst [.ref T5]) hSH
  have s46 := s5.trans s6
  have L6 := LA.same s46
  refine ⟨_, rfl, .inl ⟨rfl, _, .inl (.inl upd_same)⟩, ?_⟩
  refine ⟨_, rfl, LL, _, 0, _, rfl, rfl, .inl (.inl L6.eL), atI_nat (j := 0) rfl, _, rfl, LL, _, 2, _, rfl, rfl, .inl (.inl L6.eL), atI_nat (j := 2) rfl, _, rfl, LL, _, 3, _, rfl, rfl, .inl (.inl L6.eL), atI_nat (j := 3) rfl, _, rfl, LL, _, 1, _, rfl, rfl, .inl (.inl L6.eL), atI_nat (j := 1) rfl, rfl, rfl, L0, l2, l3, l1, ps, gn, st, olds, rfl, L6.fr, hpl, irr, .inr L6.e2, .inr L6.e3, hl s46, inl, nd, by omega, by omega, fun T7 H7 s7 told7 new7 => ?_⟩
  have n5 : H5 SH = none := hSH
  have e7 : H7 SH = some (.lst [.ref T5]) := s7 _ _ upd_same
  refine ⟨SH, _, _, rfl, rfl, e7, (by show 1 < sizeLine; decide), ?_⟩
  have k5 : Same H5 (upd H7 SH (.lst ([.ref T5] ++ [.ref T7]))) := fun b ob e => by
    rw [upd_ne (ne_of_none e n5)]
    exact s7 _ _ (s6 _ _ e)
  have sh5 := dsh _ _ told5
  have t8 : ToldAt (upd H7 SH (.lst ([.ref T5] ++ [.ref T7]))) T7 ps olds gn st := told7.upd_ e7 fun wd u' z => by
    have n := new7 wd u' z
    intro e
    rw [e, upd_same] at n
    cases n
  have e8 : upd H7 SH (.lst ([.ref T5] ++ [.ref T7])) SH = some (.lst [.ref T5, .ref T7]) := upd_same
  have t8' := told5.same k5
  generalize upd H7 SH (.lst ([.ref T5] ++ [.ref T7])) = H8 at k5 t8 e8 t8' ⊢
  have s48 := s5.trans k5
  have s08 := s04.trans s48
  refine ⟨_, rfl, SH, rfl, ⟨_, .inl (.inl e8)⟩, fun D hD => ?_⟩
  refine lc_vals (walk_list (xs := [.ref T5, .ref T7])) (fun _ => .str dt.shown) (by show 2 ≤ 1000; decide) hD (fun H' s => .inl (.inl (s _ _ e8))) ?_ ?_
  · rintro j v H9 H9' kk hj s9 ⟨rfl, ex⟩ k1
    match j, ex with
    | 0, ex => cases ex; exact ⟨rfl, _, rfl, _, dt, rfl, dsh _ _ (t8'.same s9), k1 _ (Same.refl _)⟩
    | 1, ex => cases ex; exact ⟨rfl, _, rfl, _, dt, rfl, dsh _ _ (t8.same s9), k1 _ (Same.refl _)⟩
  intro H9 s9 e9
  have e9' : H9 D = some (.lst (([dt.shown, dt.shown] : List Str).map V.str)) := e9
  have g2 : Goods [dt.shown, dt.shown] := fun y hy => by
    rcases List.mem_cons.mp hy with e | e
    · rw [e]; exact gdt
    · rw [List.mem_singleton.mp e]; exact gdt
  refine ⟨_, rfl, _, rfl, (by show 2 ≤ sizeLine; decide), fun D2 hD2 => ?_⟩
  have s10 := same_upd (o := .lst [.str dt.shown, .str dt.shown]) hD2
  refine ⟨D, D2, [dt.shown, dt.shown], [dt.shown, dt.shown], rfl, rfl, s10 _ _ e9', upd_same, g2, g2, _, rfl, ite2 (fun c => absurd c (by simp)) (fun _ => ?_)⟩
  have s4t := (s48.trans s9).trans s10
  have s0t := s04.trans s4t
  generalize upd H9 D2 (.lst [.str dt.shown, .str dt.shown]) = H10 at s4t s0t ⊢
  clear s9 s10 e9 e9' hD hD2 k5 t8 t8' e8 n5 e7 sh5 told5 told7 s48 s08 s5 s6 s46 L6
  have L10 := LA.same s4t
  -- who is left
  refine ⟨_, rfl, _, rfl, _, rfl, _, rfl, rfl, rfl, a, g, t, o, ps, gn, st, olds, rfl, (hk s0t).1, hpl, irr, (hk s0t).2.1, (hk s0t).2.2.1, (hk s0t).2.2.2, inl, nd, by omega, by omega, fun nv H11 s11 tnv => ?_⟩
  have glv : Goods (leftL ps olds gn st) := fun y my => (okw y ((left_sub irr nd).subset my)).good
  have tnv' : TupAt H11 nv ((leftL ps olds gn st).map V.str) := tnv
  have s011 := s0t.trans s11
  have L11 := L10.same s11
  refine ⟨_, rfl, _, rfl, LL, _, 0, _, rfl, rfl, .inl (.inl L11.eL), atI_nat (j := 0) rfl, _, rfl, LL, _, 1, _, rfl, rfl, .inl (.inl L11.eL), atI_nat (j := 1) rfl, _, rfl, rfl, rfl, L0, g, t, l1, ps, gn, st, olds, rfl, L11.fr, hpl, irr, (hk s011).2.1, (hk s011).2.2.1, hl (s4t.trans s11), inl, nd, by omega, by omega, fun nv2 H12 s12 tnv2 => ?_⟩
  have tnv2' : TupAt H12 nv2 ((leftL ps olds gn st).map V.str) := tnv2
  refine ⟨_, rfl, nv2, nv, _, _, rfl, rfl, tnv2', tnv'.same s12, glv, glv, _, rfl, ite2 (fun c => absurd c (by simp)) (fun _ => ?_)⟩
  have s012 := s011.trans s12
  have s412 := (s4t.trans s11).trans s12
  clear tnv tnv' tnv2 tnv2' L10 L11 s011 s11 s12
  -- times
  refine ⟨_, rfl, _, rfl, _, rfl, _, rfl, _, rfl, rfl, rfl, a, g, t, o, x, ps, gn, st, olds, rfl, (hk s012).1, hpl, irr, (hk s012).2.1, (hk s012).2.2.1, (hk s012).2.2.2, inl, nd, by omega, by omega, fun tm H13 s13 ntm etm => ?_⟩
  have s013 := s012.trans s13
  have s413 := s412.trans s13
  have L13 := LA.same s413
  generalize hts : timesL ps olds gn st x (gn.length + 1) = ts at etm
  refine ⟨_, rfl, _, rfl, LL, _, 3, _, rfl, rfl, .inl (.inl L13.eL), atI_nat (j := 3) rfl, _, rfl, _, rfl, LL, _, 2, _, rfl, rfl, .inl (.inl L13.eL), atI_nat (j := 2) rfl, _, rfl, rfl, rfl, a, l2, l3, o, x, ps, gn, st, olds, rfl, (hk s013).1, hpl, irr, .inr L13.e2, .inr L13.e3, (hk s013).2.2.2, inl, nd, by omega, by omega, fun tm2 H14 s14' _ etm2 => ?_⟩
  rw [hts] at etm2
  have etm14 := s14' _ _ etm
  refine ⟨_, rfl, tm2, tm, natI ts, natI ts, rfl, rfl, by rw [etm2, intsV_natI], by rw [etm14, intsV_natI], _, rfl, ite2 (fun c => absurd c (by simp)) (fun _ => ?_)⟩
  have s014 := s013.trans s14'
  have s414 := s413.trans s14'
  have nt4 : H4 tm = none := s412.free ntm
  clear etm2 L13 s14' s413 s013 s13 s412 s012 ntm etm
  -- shown
  have tl4 := tl.same s14
  have hT4 := hT.same s14
  have L14 := LA.same s414
  refine ⟨_, rfl, _, rfl, _, rfl, _, rfl, T, _, 1, _, rfl, rfl, (hT4.same s414).sq, atI_nat (j := 1) rfl, _, rfl, rfl, rfl, a, g, t, u, o, ps, olds, gn, st, rfl, (hk s014).1, hpl, irr, (hk s014).2.1, (hk s014).2.2.1, .inl (to.same s014), okw, nd, lw, sub, tl4.same s414, fun H15 s15 => ?_⟩
  refine ⟨(by show 1 ≤ sizeLine; decide), fun SM hSM => ?_⟩
  have s16 := same_upd (o := .lst [.bl (decide (leftL ps olds gn st = []))]) hSM
  have s416 := (s414.trans s15).trans s16
  have s016 := s04.trans s416
  have nSM : H4 SM = none := (s414.trans s15).free hSM
  have tm16 := s16 _ _ (s15 _ _ etm14)
  have e16 : (upd H15 SM (.lst [.bl (decide (leftL ps olds gn st = []))])) SM = some (.lst [.bl (decide (leftL ps olds gn st = []))]) := upd_same
  have ntS : tm ≠ SM := ne_of_none (s15 _ _ etm14) hSM
  generalize upd H15 SM (.lst [.bl (decide (leftL ps olds gn st = []))]) = H16 at s416 s016 tm16 e16 ⊢
  clear s15 s16 hSM
  refine ⟨_, rfl, .inl ⟨rfl, _, .inl (.inl e16)⟩, _, rfl, _, rfl, _, rfl, _, rfl, T, _, 1, _, rfl, rfl, (hT4.same s416).sq, atI_nat (j := 1) rfl, _, rfl, rfl, rfl, a, g, t, u, o, ps, olds, gn, st, rfl, (hk s016).1, hpl, irr, (hk s016).2.1, (hk s016).2.2.1, to.same s016, okw, nd, lw, sub, tl4.same s416, fun H17 s17 => ?_⟩
  refine ⟨SM, _, _, rfl, rfl, s17 _ _ e16, (by show 1 < sizeLine; decide), ?_⟩
  have s418 : Same H4 (upd H17 SM (.lst ([.bl (decide (leftL ps olds gn st = []))] ++ [.bl (!decide (leftL ps olds gn st = []))]))) := fun b ob e => by
    rw [upd_ne (ne_of_none e nSM)]
    exact (s416.trans s17) _ _ e
  have tm18 := (upd_ne (o := .lst ([.bl (decide (leftL ps olds gn st = []))] ++ [.bl (!decide (leftL ps olds gn st = []))])) ntS).trans (s17 _ _ tm16)
  have e18 : (upd H17 SM (.lst ([.bl (decide (leftL ps olds gn st = []))] ++ [.bl (!decide (leftL ps olds gn st = []))]))) SM = some (.lst [.bl (decide (leftL ps olds gn st = [])), .bl (!decide (leftL ps olds gn st = []))]) := upd_same
  generalize upd H17 SM (.lst ([.bl (decide (leftL ps olds gn st = []))] ++ [.bl (!decide (leftL ps olds gn st = []))])) = H18 at s418 tm18 e18 ⊢
  have s018 := s04.trans s418
  have L18 := LA.same s418
  clear s17 e16 tm16 s416 s016
  refine ⟨_, rfl, .inl ⟨rfl, _, .inl (.inl e18)⟩, _, rfl, T, _, 1, _, rfl, rfl, (hT4.same s418).sq, atI_nat (j := 1) rfl, _, rfl, LL, _, 3, _, rfl, rfl, .inl (.inl L18.eL), atI_nat (j := 3) rfl, _, rfl, LL, _, 1, _, rfl, rfl, .inl (.inl L18.eL), atI_nat (j := 1) rfl, _, rfl, _, rfl, LL, _, 0, _, rfl, rfl, .inl (.inl L18.eL), atI_nat (j := 0) rfl, rfl, rfl, L0, g, l3, u, l1, ps, olds, gn, st, rfl, L18.fr, hpl, irr, (hk s018).2.1, .inr L18.e3, .inr L18.e1, okw, nd, lw, sub, tl4.same s418, fun H19 s19 => ?_⟩
  refine ⟨SM, _, _, rfl, rfl, s19 _ _ e18, (by show 2 < sizeLine; decide), ?_⟩
  have s420 : Same H4 (upd H19 SM (.lst ([.bl (decide (leftL ps olds gn st = [])), .bl (!decide (leftL ps olds gn st = []))] ++ [.bl (decide (leftL ps olds gn st = []))]))) := fun b ob e => by
    rw [upd_ne (ne_of_none e nSM)]
    exact (s418.trans s19) _ _ e
  have tm20 := (upd_ne (o := .lst ([.bl (decide (leftL ps olds gn st = [])), .bl (!decide (leftL ps olds gn st = []))] ++ [.bl (decide (leftL ps olds gn st = []))])) ntS).trans (s19 _ _ tm18)
  have e20 : (upd H19 SM (.lst ([.bl (decide (leftL ps olds gn st = [])), .bl (!decide (leftL ps olds gn st = []))] ++ [.bl (decide (leftL ps olds gn st = []))]))) SM = some (.lst [.bl (decide (leftL ps olds gn st = [])), .bl (!decide (leftL ps olds gn st = [])), .bl (decide (leftL ps olds gn st = []))]) := upd_same
  generalize upd H19 SM (.lst ([.bl (decide (leftL ps olds gn st = [])), .bl (!decide (leftL ps olds gn st = []))] ++ [.bl (decide (leftL ps olds gn st = []))])) = H20 at s420 tm20 e20 ⊢
  have s020 := s04.trans s420
  have L20 := LA.same s420
  clear s19 e18 tm18 s418 s018 L18
  refine ⟨_, rfl, .inl ⟨rfl, _, .inl (.inl e20)⟩, _, rfl, T, _, 1, _, rfl, rfl, (hT4.same s420).sq, atI_nat (j := 1) rfl, _, rfl, _, rfl, _, rfl, LL, _, 2, _, rfl, rfl, .inl (.inl L20.eL), atI_nat (j := 2) rfl, _, rfl, rfl, rfl, a, l2, t, u, o, ps, olds, gn, st, rfl, (hk s020).1, hpl, irr, .inr L20.e2, (hk s020).2.2.1, to.same s020, okw, nd, lw, sub, tl4.same s420, fun H21 s21 => ?_⟩
  refine ⟨SM, _, _, rfl, rfl, s21 _ _ e20, (by show 3 < sizeLine; decide), ?_⟩
  have s422 : Same H4 (upd H21 SM (.lst ([.bl (decide (leftL ps olds gn st = [])), .bl (!decide (leftL ps olds gn st = [])), .bl (decide (leftL ps olds gn st = []))] ++ [.bl (!decide (leftL ps olds gn st = []))]))) := fun b ob e => by
    rw [upd_ne (ne_of_none e nSM)]
    exact (s420.trans s21) _ _ e
  have tm22 := (upd_ne (o := .lst ([.bl (decide (leftL ps olds gn st = [])), .bl (!decide (leftL ps olds gn st = [])), .bl (decide (leftL ps olds gn st = []))] ++ [.bl (!decide (leftL ps olds gn st = []))])) ntS).trans (s21 _ _ tm20)
  have e22 : (upd H21 SM (.lst ([.bl (decide (leftL ps olds gn st = [])), .bl (!decide (leftL ps olds gn st = [])), .bl (decide (leftL ps olds gn st = []))] ++ [.bl (!decide (leftL ps olds gn st = []))]))) SM = some (.lst [.bl (decide (leftL ps olds gn st = [])), .bl (!decide (leftL ps olds gn st = [])), .bl (decide (leftL ps olds gn st = [])), .bl (!decide (leftL ps olds gn st = []))]) := upd_same
  generalize upd H21 SM (.lst ([.bl (decide (leftL ps olds gn st = [])), .bl (!decide (leftL ps olds gn st = [])), .bl (decide (leftL ps olds gn st = []))] ++ [.bl (!decide (leftL ps olds gn st = []))])) = H22 at s422 tm22 e22 ⊢
  have s022 := s04.trans s422
  clear s21 e20 tm20 s420 s020 L20
  have hT22 := hT4.same s422
  have q1 : decide (V.str (if leftL ps olds gn st = [] then "deeds" else "none") = V.str "deeds") = decide (leftL ps olds gn st = []) := by
    by_cases h0 : leftL ps olds gn st = []
    · simp [h0]
    · simp only [h0, if_false]
      decide
  have q2 : decide (V.str (if leftL ps olds gn st = [] then "deeds" else "none") = V.str "none") = !decide (leftL ps olds gn st = []) := by
    by_cases h0 : leftL ps olds gn st = []
    · simp only [h0, if_true]
      decide
    · simp [h0]
  refine ⟨_, rfl, _, rfl, T, _, 0, _, rfl, rfl, hT22.sq, atI_nat (j := 0) rfl, rfl, ?_⟩
  refine ⟨_, rfl, T, _, 0, _, rfl, rfl, hT22.sq, atI_nat (j := 0) rfl, rfl, ?_⟩
  rw [q1, q2]
  generalize decide (leftL ps olds gn st = []) = bb at e22 ⊢
  refine ⟨(by show 2 ≤ sizeLine; decide), fun R hR => ?_⟩
  have s23 := same_upd (o := .lst [.bl bb, .bl (!bb)]) hR
  refine ⟨R, 2, _, rfl, rfl, upd_same, by decide, by decide, (by show 2 * 2 ≤ sizeLine; decide), fun R2 hR2 => ?_⟩
  have s24 := same_upd (o := .lst (List.replicate (2 : Int).toNat [V.bl bb, .bl (!bb)]).flatten) hR2
  refine ⟨_, _, rfl, alk_bools (bs := [bb, !bb, bb, !bb]) ((s23.trans s24) _ _ e22) upd_same (by show 4 ≤ 1000; decide), fun H25 s25 => ?_⟩
  have s425 := ((s422.trans s23).trans s24).trans s25
  have s025 := s04.trans s425
  have tm25 := s25 _ _ (s24 _ _ (s23 _ _ tm22))
  clear s23 s24 s25 hR hR2 e22 tm22 s422 s022 hT22
  refine ⟨true, rfl, ite2 (fun c => absurd c (by decide)) (fun _ => ?_)⟩
  -- spoilt
  obtain ⟨ys1, hu1, _⟩ := tl.lst irr nd sub (by omega)
  obtain ⟨ys, eu, ly⟩ := (tl4.same s425).lst irr nd sub (by omega)
  refine ⟨_, rfl, T, u, ys, rfl, eu, by omega, .inl ⟨_, hT4.same s425⟩, ?_⟩
  have hu4 : H4 u = some (.lst ys1) := s14 _ _ hu1
  have ntu : tm ≠ u := fun e => by
    rw [e, hu4] at nt4
    cases nt4
  have tmS : upd H25 u (.lst (ys ++ [.str "more"])) tm = some (.lst (intsV ts)) := (upd_ne ntu).trans tm25
  have lts : ts.length ≤ 9 ∧ ∀ m ∈ ts, m ≤ 100 := by
    rw [← hts]
    have h1 := (times_le (ps := ps) (olds := olds) (gn := gn) (st := st) (x := x) (n := gn.length + 1))
    exact ⟨by have := h1.2; omega, fun m hm => by have := h1.1 m hm; omega⟩
  refine ⟨_, rfl, .inl ⟨rfl, _, .inl (.inl tmS)⟩, tm, _, _, rfl, rfl, tmS, (by unfold intsV; rw [List.length_map]; exact small1000 (by omega)), ?_⟩
  have ntH : H tm = none := s04.free nt4
  have sT : Same H (upd (upd H25 u (.lst (ys ++ [.str "more"]))) tm (.lst (intsV ts ++ [.int 99]))) := fun b ob e => by
    rw [upd_ne (ne_of_none e ntH), upd_ne (ne_of_none e nu)]
    exact s025 _ _ e
  have LT : ListA8 H1 (upd (upd H25 u (.lst (ys ++ [.str "more"]))) tm (.lst (intsV ts ++ [.int 99]))) LL ⟨cs, L0, l1, l2, l3⟩ ps olds gn st := LA.keep fun b ob e n => by
    have nb : b ≠ u := fun z => by
      rw [z, hu1] at n
      cases n
    rw [upd_ne (ne_of_none e nt4), upd_ne nb]
    exact s425 _ _ e
  have tmT : (upd (upd H25 u (.lst (ys ++ [.str "more"]))) tm (.lst (intsV ts ++ [.int 99]))) tm = some (.lst (intsV ts ++ [.int 99])) := upd_same
  generalize upd (upd H25 u (.lst (ys ++ [.str "more"]))) tm (.lst (intsV ts ++ [.int 99])) = HT at sT LT tmT ⊢
  clear tmS eu hu4 hu1 tl tl4 hT hT4 told4 told s025 s425 tm25 LA s14 s04 s1 nt4
  -- again
  refine ⟨_, rfl, _, rfl, _, rfl, _, rfl, rfl, rfl, a, g, t, o, ps, gn, st, olds, rfl, (hk sT).1, hpl, irr, (hk sT).2.1, (hk sT).2.2.1, (hk sT).2.2.2, inl, nd, by omega, by omega, fun T9 H27 s27 told9 _ => ⟨_, dt, rfl, dsh _ _ told9, (by show 1 ≤ sizeLine; decide), fun AG hAG => ?_⟩⟩
  have s28 := same_upd (o := .lst [.str dt.shown]) hAG
  have sU := s27.trans s28
  have s0U := sT.trans sU
  have eAG : upd H27 AG (.lst [.str dt.shown]) AG = some (.lst [.str dt.shown]) := upd_same
  generalize upd H27 AG (.lst [.str dt.shown]) = H28 at sU s0U eAG ⊢
  have nAG : HT AG = none := s27.free hAG
  clear s28 told9 hAG s27
  refine ⟨_, rfl, .inl ⟨rfl, _, .inl (.inl eAG)⟩, _, rfl, _, rfl, _, rfl, _, rfl, _, rfl, rfl, rfl, a, g, t, o, x, ps, gn, st, olds, rfl, (hk s0U).1, hpl, irr, (hk s0U).2.1, (hk s0U).2.2.1, (hk s0U).2.2.2, inl, nd, by omega, by omega, fun tm3 H29 s29 _ etm3 => ?_⟩
  rw [hts] at etm3
  have shT : ∀ {H' : Hp} {p : Addr}, H' p = some (.lst (intsV ts)) → Shown K H' (.ref p) (.list (ts.map fun n => .int (n : Nat))) := fun e => Shown.mk_ (dp_nats e) (fit_nats lts.2 (by omega))
  have gtm : Good (PyData.shown (.list (ts.map fun n => .int (n : Nat)))) := good_shown _ (by simp only [PyData.canLay0]; exact lay_nats ts)
  generalize hdx : PyData.list (ts.map fun n => .int (n : Nat)) = dx at shT gtm
  refine ⟨_, dx, rfl, shT etm3, AG, _, _, rfl, rfl, s29 _ _ eAG, (by show 1 < sizeLine; decide), ?_⟩
  have sV : Same HT (upd H29 AG (.lst ([.str dt.shown] ++ [.str dx.shown]))) := fun b ob e => by
    rw [upd_ne (ne_of_none e nAG)]
    exact s29 _ _ (sU _ _ e)
  have eAG2 : upd H29 AG (.lst ([.str dt.shown] ++ [.str dx.shown])) AG = some (.lst (([dt.shown, dx.shown] : List Str).map V.str)) := upd_same
  generalize upd H29 AG (.lst ([.str dt.shown] ++ [.str dx.shown])) = H30 at sV eAG2 ⊢
  have s030 := sT.trans sV
  clear s29 etm3 eAG sU s0U
  have LV := LT.same sV
  have tmV := sV _ _ tmT
  clear LT tmT
  obtain ⟨bs, ea, pb, em⟩ := hpa
  have lbs : bs.length ≤ 1000 := by
    rw [em, List.length_map] at hpl
    exact hpl
  refine ⟨_, rfl, .ref a, rfl, a, rfl, ⟨_, .inl (.inl (s030 _ _ ea))⟩, fun M0 hM0 => ?_⟩
  refine lc_lists (s030 _ _ ea) (fun c hc => s030 _ _ (pb c hc)) lbs hM0 (fun c H' k mc s k1 => ⟨rfl, _, rfl, c.1, _, rfl, .inr (.inl (.inl (s _ _ (s030 _ _ (pb c mc))))), k1⟩) fun H31 ds s31 eM0 eds mds => ?_
  have s031 := s030.trans s31
  refine ⟨_, rfl, o, _, rfl, .inr (to.same s031).sq, fun m1 hm1 => ?_⟩
  have z1 := same_upd (o := .lst (olds.map V.str)) hm1
  refine ⟨_, rfl, g, _, rfl, .inr (tg.same (s031.trans z1)).sq, fun m2 hm2 => ?_⟩
  have z2 := same_upd (o := .lst (gn.map V.str)) hm2
  refine ⟨_, rfl, t, _, rfl, .inr (tt.same ((s031.trans z1).trans z2)).sq, fun m3 hm3 => ?_⟩
  have z3 := same_upd (o := .lst (st.map V.str)) hm3
  refine ⟨(by show 4 ≤ sizeLine; decide), fun MM hMM => ?_⟩
  have z4 := same_upd (o := .lst [.ref M0, .ref m1, .ref m2, .ref m3]) hMM
  have zz := ((z1.trans z2).trans z3).trans z4
  have sW := s31.trans zz
  have MA : ListA8 H30 _ MM ⟨ds, M0, m1, m2, m3⟩ ps olds gn st := ⟨upd_same, zz _ _ eM0, fun c hc => ⟨(eds c hc).1, zz _ _ (eds c hc).2⟩, by rw [mds, em], (z2.trans (z3.trans z4)) _ _ upd_same, (z3.trans z4) _ _ upd_same, z4 _ _ upd_same, (((s31.trans z1).trans z2).trans z3).free hMM, hM0, s31.free hm1, (s31.trans z1).free hm2, ((s31.trans z1).trans z2).free hm3⟩
  generalize upd (upd (upd (upd H31 m1 (.lst (olds.map V.str))) m2 (.lst (gn.map V.str))) m3 (.lst (st.map V.str))) MM (.lst [.ref M0, .ref m1, .ref m2, .ref m3]) = H32 at sW MA ⊢
  refine ⟨_, _, (LV.same sW).dp, MA.dp, sh_lists4 gp' go' gn' gs', sh_lists4 gp' go' gn' gs', _, rfl, ite2 (fun c => ?_) (fun _ => ?_)⟩
  · rw [eqv_lists4 gp' go' gn' gs'] at c
    exact absurd c (by decide)
  have tmW := sW _ _ tmV
  have eAG3 := sW _ _ eAG2
  have s032 := s030.trans sW
  clear zz z1 z2 z3 z4 s31 eM0 eds mds hM0 hm1 hm2 hm3 hMM LV MA
  have ec : cutV (intsV ts ++ [V.int 99]) none (some (-1)) = intsV ts := by
    have e1 : intsV ts ++ [V.int 99] = intsV (ts ++ [99]) := by
      unfold intsV
      rw [List.map_append]
      rfl
    rw [e1]
    unfold intsV
    rw [cutV_map, cutL_but, List.dropLast_concat]
  refine ⟨_, rfl, _, rfl, _, rfl, 1, rfl, _, rfl, tm, _, rfl, .inl (.inl tmW), fun p hp => ?_⟩
  have s33 := same_upd (o := .lst (cutV (intsV ts ++ [V.int 99]) none (some (-1)))) hp
  have ep : upd H32 p (.lst (cutV (intsV ts ++ [V.int 99]) none (some (-1)))) p = some (.lst (intsV ts)) := by rw [upd_same, ec]
  generalize upd H32 p (.lst (cutV (intsV ts ++ [V.int 99]) none (some (-1)))) = H33 at s33 ep ⊢
  refine ⟨_, dx, rfl, shT ep, (by show 2 ≤ sizeLine; decide), fun p2 hp2 => ?_⟩
  have s34 := same_upd (o := .lst [.str dt.shown, .str dx.shown]) hp2
  have gg : Goods [dt.shown, dx.shown] := fun y hy => by
    rcases List.mem_cons.mp hy with e | e
    · rw [e]; exact gdt
    · rw [List.mem_singleton.mp e]; exact gtm
  refine ⟨AG, p2, [dt.shown, dx.shown], [dt.shown, dx.shown], rfl, rfl, (s33.trans s34) _ _ eAG3, upd_same, gg, gg, ?_⟩
  rw [decide_eq_true rfl]
  exact q _ ((s032.trans s33).trans s34)
/-! ### _law_seen_right -/
abbrev sSeR : Stmt := topS 66
abbrev nSeR : List Str := ["_law_pals_here", "_law_gone", "_law_stand", "_law_seen", "_law_told", "_law_kept", "_law_pairs", "_law_pair", "_law_fine"]
abbrev pSeR : List Str := ["_law_pals_here", "_law_gone", "_law_stand"]
theorem scSeR : FnScope nSeR pSeR (defScope sSeR) := ⟨rfl, rfl, rfl, by decide +kernel, rfl, by decide +kernel, by decide +kernel⟩
-- slots: 0:pals_here 1:gone 2:stand 3:seen 4:told 5:kept 6:pairs 7:pair 8:fine
theorem ok_seR {f : Addr} {fd : FuncData} (B : Blt mg) {CB : Addr} (CSa : Cal P w K mg base 2 "_law_same" ["_law_found", "_law_due"] (spSame 2)) (CSpt : Cal P w K mg base 1 "_law_spoil_told" ["_law_told"] spSpt) (CSea : Cal P w K mg base 7 "seen_after" ["friends", "served", "sights"] (no_E (spSeenN CB))) (CSeaN : CalN P w K mg base 7 "seen_after" ["friends", "served", "sights"] ["sights", "served", "friends"] [2, 1, 0] (no_E (spSeenN CB)))
    (CShSe : Cal P w K mg base 9 "shows_seen" ["friends", "served", "sights", "thing"] spShSe) (CShSeN : CalN P w K mg base 9 "shows_seen" ["friends", "served", "sights", "thing"] ["thing", "sights", "served", "friends"] [3, 2, 1, 0] spShSe) (F : Fun K "_law_seen_right" "_law_seen_right" sSeR f fd) : FnOk P w K mg base CX0 10 f fd pSeR spSeR38 := by
  refine fok F scSeR (fun vs H Q E h => ?_) (fun cdv A outer s H vs Q E hr h => ?_)
  · obtain ⟨a, g, t, ps, gn, st, rfl, _⟩ := h
    rfl
  have hu := hu_of hr
  refine ⟨_, pss_cons (ps_set (i := 3) scSeR.nd rfl (.inl rfl) (pe_lst (pa_cons (pe_tup (pa_cons pe_int (pa_cons (pe_tupF pa_nil) pa_nil))) (pa_cons (pe_tup (pa_cons (pe_callB call_len_seq (by rfl) B.len PySem.boot_len (pa_cons (pv 1) pa_nil)) (pa_cons (pv 2) pa_nil))) pa_nil))))
    (pss_cons (ps_par (i := 4) (j := 5) (by rfl) scSeR.nd rfl rfl (by decide) rfl rfl (pa_cons (pe_cal CSea hr (pa_cons (pv 0) (pa_cons (pv 1) (pa_cons (pv 3) pa_nil)))) (pa_cons (pe_callB (call_reprS hr) (by rfl) B.repr (by decide +kernel) (pa_cons (pe_cal CSea hr (pa_cons (pv 0) (pa_cons (pv 1) (pa_cons (pv 3) pa_nil)))) pa_nil)) pa_nil)) (by rfl))
    (pss_cons (ps_setLc (i := 6) (own := [("_law_pair", 7)]) (g := gName 7) (tt := tYes) (te := tCB (rListOf K) (tCons (tVar 7) tNil)) rfl scSeR.nd rfl rfl (sw_true rfl rfl rfl (by decide +kernel)) (pi_tup (pv 0)) (blkOk_by (N := nSeR) (sc := defScope sSeR) (by decide +kernel)) (fun _ _ _ _ _ => pg_name (i := 7) scSeR.nd rfl (Or.inl rfl)) (fun _ _ _ _ _ => pts_nil) (fun _ _ _ _ _ => pe_callTy call_listN (by rfl) B.list (by decide +kernel) (pa_cons (pv 7) pa_nil)))
    (pss_cons (ps_if (pt_cmpR op_ne (pe_callB (call_reprS hr) (by rfl) B.repr (by decide +kernel) (pa_cons (pe_caln CSeaN hr (pk_cons (pe_callTy call_tuple_of (by rfl) B.tuple (by decide +kernel) (pa_cons (pv 3) pa_nil)) (pk_cons (pe_callTy call_listN (by rfl) B.list (by decide +kernel) (pa_cons (pv 1) pa_nil)) (pk_cons (pv 6) pk_nil)))) pa_nil)) (pv 5) (nomark _))
      (pss_one (ps_ret pe_bl))
      pss_nil)
    (pss_cons (ps_set (i := 8) scSeR.nd rfl (.inl rfl) (pe_lst (pa_cons (pe_cal CShSe hr (pa_cons (pv 0) (pa_cons (pv 1) (pa_cons (pv 3) (pa_cons (pe_ix ix_tup (pv 4) pe_int (fun _ _ => rfl)) pa_nil))))) (pa_cons (pe_caln CShSeN hr (pk_cons (pe_ix ix_tup (pv 4) pe_int (fun _ _ => rfl)) (pk_cons (pv 3) (pk_cons (pv 1) (pk_cons (pv 0) pk_nil))))) pa_nil))))
    (pss_cons (ps_if (pt_not (pt_val (pe_cal CSa hr (pa_cons (pv 8) (pa_cons (pe_lst (pa_cons pe_bl (pa_cons pe_bl pa_nil))) pa_nil)))))
      (pss_one (ps_ret pe_bl))
      pss_nil)
    (pss_cons (ps_expr (pe_cal CSpt hr (pa_cons (pv 4) pa_nil)))
    (pss_one (ps_ret (pe_and (pe_cmpR op_eq (pe_callB (call_reprS hr) (by rfl) B.repr (by decide +kernel) (pa_cons (pe_cal CSea hr (pa_cons (pv 0) (pa_cons (pv 1) (pa_cons (pe_lst (pa_cons (pe_lst (pa_cons pe_int (pa_cons (pe_lst pa_nil) pa_nil))) (pa_cons (pe_lst (pa_cons (pe_callB call_len_seq (by rfl) B.len PySem.boot_len (pa_cons (pv 1) pa_nil)) (pa_cons (pe_callTy call_listN (by rfl) B.list (by decide +kernel) (pa_cons (pv 2) pa_nil)) pa_nil))) pa_nil))) pa_nil)))) pa_nil)) (pv 5) (nomark _)) (pe_one (pe_cmpR op_eq (pe_callB call_len_seq (by rfl) B.len PySem.boot_len (pa_cons (pv 3) pa_nil)) pe_int (nomark _)))))))))))), ?_⟩
  obtain ⟨a, g, t, ps, gn, st, rfl, hpa, hpo, irr, hpl, tg, tt, okw, nd, lw, q⟩ := h
  have hk : ∀ {H' : Hp}, Same H H' → FrAt H' a ps := fun s => (hpa.same s).fr
  have few : gn.length + ([] : List Str).length ≤ 60 ∧ gn.length + st.length ≤ 60 := ⟨by show gn.length + 0 ≤ 60; omega, by omega⟩
  obtain ⟨dt, lay, dsh⟩ := seen_data (K := K) (ps := ps) (pts := [([], [], []), (gn, st, [])]) irr (by show 2 ≤ 100; decide) (fun pt m => by
    rcases List.mem_cons.mp m with e | e
    · subst e
      exact ⟨(fun _ h => nomatch h), List.nodup_nil, (by show 0 + 2 * 0 ≤ 80; decide), List.Sublist.refl _⟩
    · rw [List.mem_singleton.mp e]
      exact ⟨okw, nd, by show st.length + 2 * gn.length ≤ 80; omega, List.nil_sublist _⟩)
  have gdt := good_shown dt lay
  -- seen
  refine ⟨(by show 0 ≤ sizeLine; decide), fun E0 H1 s1 n1 e1 => ?_⟩
  refine ⟨(by show 2 ≤ sizeLine; decide), fun p1 hp1 => ?_⟩
  have s2 := same_upd (o := .tup [.int 0, .ref E0]) hp1
  have s02 := s1.trans s2
  refine ⟨_, rfl, g, _, rfl, .inr (tg.same s02).sq, _, rfl, (by show 2 ≤ sizeLine; decide), fun p2 hp2 => ?_⟩
  rw [List.length_map]
  have s3 := same_upd (o := .tup [.int (gn.length : Nat), .ref t]) hp2
  have s03 := s02.trans s3
  refine ⟨(by show 2 ≤ sizeLine; decide), fun S hS => ?_⟩
  have s4 := same_upd (o := .lst [.ref p1, .ref p2]) hS
  have s04 := s03.trans s4
  have k0 := e1.same (s2.trans (s3.trans s4))
  have k1 := (s3.trans s4) _ _ (upd_same (H := H1) (a := p1) (o := .tup [.int 0, .ref E0]))
  have k2 := s4 _ _ (upd_same (H := upd H1 p1 (.tup [.int 0, .ref E0])) (a := p2) (o := .tup [.int (gn.length : Nat), .ref t]))
  have eS := upd_same (H := upd (upd H1 p1 (.tup [.int 0, .ref E0])) p2 (.tup [.int (gn.length : Nat), .ref t])) (a := S) (o := .lst [.ref p1, .ref p2])
  generalize upd (upd (upd H1 p1 (.tup [.int 0, .ref E0])) p2 (.tup [.int (gn.length : Nat), .ref t])) S (.lst [.ref p1, .ref p2]) = H4 at s04 k0 k1 k2 eS ⊢
  clear s1 s2 s02 s3 s03 s4 hS hp1 hp2 n1 e1
  have hqs : ∀ {H' : Hp}, Same H4 H' → SightsAt H' [(p1, 0, E0, []), (p2, gn.length, t, st)] := fun s q hq => by
    rcases List.mem_cons.mp hq with e | e
    · subst e
      exact ⟨s _ _ k1, k0.same s⟩
    · rw [List.mem_singleton.mp e]
      exact ⟨s _ _ k2, tt.same (s04.trans s)⟩
  have fe : ∀ q ∈ ([(p1, 0, E0, []), (p2, gn.length, t, st)] : List LS), gn.length + q.2.2.2.length ≤ 60 := fun q hq => by
    rcases List.mem_cons.mp hq with e | e
    · subst e
      exact few.1
    · rw [List.mem_singleton.mp e]
      exact few.2
  have nb : ∀ k, badS gn (0, []) 0 [(0, []), (gn.length, st)] = some k → False := fun k z => by
    rw [two_bad nd] at z
    cases z
  -- told, kept
  refine ⟨_, rfl, _, rfl, _, rfl, a, g, S, ps, gn, [(p1, 0, E0, []), (p2, gn.length, t, st)], rfl, hk s04, hpl, irr, .inl (tg.same s04), .inl eS, (fun q hq => (hqs (Same.refl _) q hq).x), (by simp), (by show 2 ≤ 100; decide), fe, (fun _ T H5 s5 told new => ?_), fun k hb => (nb k hb).elim⟩
  have told' : SeenAt H5 T ps [([], [], []), (gn, st, [])] := by
    have z : SeenAt H5 T ps (partsS gn [(0, []), (gn.length, st)]) := told
    rwa [two_parts] at z
  have s05 := s04.trans s5
  refine ⟨_, rfl, _, rfl, _, rfl, a, g, S, ps, gn, [(p1, 0, E0, []), (p2, gn.length, t, st)], rfl, hk s05, hpl, irr, .inl (tg.same s05), .inl (s5 _ _ eS), (fun q hq => (hqs s5 q hq).x), (by simp), (by show 2 ≤ 100; decide), fe, (fun _ T6 H6 s6 told6 _ => ?_), fun k hb => (nb k hb).elim⟩
  have told6' : SeenAt H6 T6 ps [([], [], []), (gn, st, [])] := by
    have z : SeenAt H6 T6 ps (partsS gn [(0, []), (gn.length, st)]) := told6
    rwa [two_parts] at z
  refine ⟨_, dt, rfl, dsh _ _ told6', ⟨_, _, rfl, ?_⟩⟩
  have s46 := s5.trans s6
  have s06 := s04.trans s46
  have t6 : SeenAt H6 T ps [([], [], []), (gn, st, [])] := told'.same s6
  -- pairs
  obtain ⟨bs, ea, pb, em⟩ := hpa
  have lbs : bs.length ≤ 1000 := by
    rw [em, List.length_map] at hpl
    exact hpl
  refine ⟨.ref a, rfl, a, rfl, ⟨_, .inl (.inl (s06 _ _ ea))⟩, fun L0 hL0 => ?_⟩
  refine lc_lists (s06 _ _ ea) (fun c hc => s06 _ _ (pb c hc)) lbs hL0 (fun c H' k mc s k1 => ⟨rfl, _, rfl, c.1, _, rfl, .inr (.inl (.inl (s _ _ (s06 _ _ (pb c mc))))), k1⟩) fun H7 cs s7 eL0 ecs mcs => ?_
  have s47 := s46.trans s7
  have s07 := s04.trans s47
  have frL : ∀ {H' : Hp}, Same H7 H' → FrAt H' L0 ps := fun s => ⟨cs, .inr (s _ _ eL0), fun c hc => .inr (s _ _ (ecs c hc).2), by rw [mcs, em]⟩
  have hpa : PalsAt H a ps := ⟨bs, ea, pb, em⟩
  -- by names
  refine ⟨_, rfl, S, _, rfl, .inl ⟨.inl (.inl (s47 _ _ eS)), fun S2 hS2 => ?_⟩⟩
  have s8 := same_upd (o := .tup [.ref p1, .ref p2]) hS2
  refine ⟨_, rfl, g, _, rfl, .inr (tg.same (s07.trans s8)).sq, fun g2 hg2 => ?_⟩
  have s9 := same_upd (o := .lst (gn.map V.str)) hg2
  have s79 := s8.trans s9
  have s49 := s47.trans s79
  have s09 := s04.trans s49
  have eS2 := s9 _ _ (upd_same (H := H7) (a := S2) (o := .tup [.ref p1, .ref p2]))
  refine ⟨_, rfl, rfl, rfl, L0, g2, S2, ps, gn, [(p1, 0, E0, []), (p2, gn.length, t, st)], rfl, frL s79, hpl, irr, .inr upd_same, .inr eS2, (fun q hq => (hqs s49 q hq).x), (by simp), (by show 2 ≤ 100; decide), fe, (fun _ T10 H10 s10 told10 _ => ?_), fun k hb => (nb k hb).elim⟩
  have told10' : SeenAt H10 T10 ps [([], [], []), (gn, st, [])] := by
    have z : SeenAt H10 T10 ps (partsS gn [(0, []), (gn.length, st)]) := told10
    rwa [two_parts] at z
  have s410 := s49.trans s10
  have s010 := s04.trans s410
  refine ⟨_, dt, rfl, dsh _ _ told10', _, rfl, rfl, _, rfl, ite2 (fun c => absurd c (by simp)) (fun _ => ?_)⟩
  -- shown
  have t10 := told'.same ((s6.trans s7).trans (s79.trans s10))
  obtain ⟨wd, x, hTx, thg⟩ := t10.thing
  have thg' : ∀ {H' : Hp}, Same H10 H' → ThingAt H' x ps (partsS gn [(0, []), (gn.length, st)]) := fun s => by
    rw [two_parts]
    exact thg.same s
  have ng : ∀ y ∈ gn, NameOk y := fun y my => okw y (List.mem_append_left _ my)
  have nq : ∀ q ∈ ([(p1, 0, E0, []), (p2, gn.length, t, st)] : List LS), (∀ y ∈ q.2.2.2, NameOk y) ∧ gn.length + q.2.2.2.length ≤ 40 := fun q hq => by
    rcases List.mem_cons.mp hq with e | e
    · subst e
      exact ⟨(fun _ h => nomatch h), by show gn.length + 0 ≤ 40; omega⟩
    · rw [List.mem_singleton.mp e]
      exact ⟨fun y my => okw y (List.mem_append_right _ my), by show gn.length + st.length ≤ 40; omega⟩
  refine ⟨_, rfl, _, rfl, _, rfl, _, rfl, T, _, 1, _, rfl, rfl, hTx.sq, atI_nat (j := 1) rfl, a, g, S, x, ps, gn, [(p1, 0, E0, []), (p2, gn.length, t, st)], rfl, hk s010, hpl, irr, tg.same s010, s410 _ _ eS, hqs s410, (by simp), (by show 2 ≤ 100; decide), two_bad nd, ng, nq, thg' (Same.refl _), fun H11 s11 => ?_⟩
  have s411 := s410.trans s11
  have s011 := s04.trans s411
  refine ⟨_, rfl, T, _, 1, _, rfl, rfl, (hTx.same s11).sq, atI_nat (j := 1) rfl, _, rfl, _, rfl, _, rfl, rfl, rfl, a, g, S, x, ps, gn, [(p1, 0, E0, []), (p2, gn.length, t, st)], rfl, hk s011, hpl, irr, tg.same s011, s411 _ _ eS, hqs s411, (by simp), (by show 2 ≤ 100; decide), two_bad nd, ng, nq, thg' s11, fun H12 s12 => ?_⟩
  refine ⟨(by show 2 ≤ sizeLine; decide), fun R hR => ?_⟩
  have s13 := same_upd (o := .lst [.bl true, .bl true]) hR
  refine ⟨_, rfl, (by show 2 ≤ sizeLine; decide), fun R2 hR2 => ?_⟩
  have s14 := same_upd (o := .lst [.bl true, .bl true]) hR2
  refine ⟨_, _, rfl, alk_bools (bs := [true, true]) (s14 _ _ upd_same) upd_same (by decide), fun H15 s15 => ?_⟩
  refine ⟨true, rfl, ite2 (fun c => absurd c (by decide)) (fun _ => ?_)⟩
  have s1015 := (((s11.trans s12).trans s13).trans s14).trans s15
  have s415 := s410.trans s1015
  have s515 := ((s6.trans s7).trans (s79.trans s10)).trans s1015
  -- spoilt
  obtain ⟨p, ys, np, ep, ly, spot⟩ := told'.spot new 60 (by show 2 ≤ 60; decide) (fun pt m => by
    rcases List.mem_cons.mp m with e | e
    · subst e
      exact Nat.le_trans (left_sub (ps := ps) (elders := []) (svd := []) (row := []) irr List.nodup_nil).length_le (by show 0 ≤ 60; decide)
    · rw [List.mem_singleton.mp e]
      have := (left_sub (ps := ps) (elders := []) irr nd).length_le
      rw [List.length_append] at this
      show (leftL ps [] gn st).length ≤ 60
      omega)
  refine ⟨_, rfl, T, p, ys, rfl, s515 _ _ ep, by omega, spot.imp (fun ⟨x, h⟩ => ⟨x, h.same s515⟩) (fun ⟨U, x, y, h1, h2⟩ => ⟨U, x, y, h1.same s515, h2.same s515⟩), ?_⟩
  have s416 : Same H4 (upd H15 p (.lst (ys ++ [.str "more"]))) := fun b ob e => by
    rw [upd_ne (ne_of_none e np)]
    exact s415 _ _ e
  generalize upd H15 p (.lst (ys ++ [.str "more"])) = H16 at s416 ⊢
  have s016 := s04.trans s416
  refine ⟨_, rfl, _, rfl, (by show 0 ≤ sizeLine; decide), fun r0 hr0 => ?_⟩
  have w1 := same_upd (o := .lst []) hr0
  refine ⟨(by show 2 ≤ sizeLine; decide), fun q1 hq1 => ?_⟩
  have w2 := same_upd (o := .lst [.int 0, .ref r0]) hq1
  have w02 := (s016.trans w1).trans w2
  refine ⟨_, rfl, g, _, rfl, .inr (tg.same w02).sq, _, rfl, t, _, rfl, .inr (tt.same w02).sq, fun r1 hr1 => ?_⟩
  rw [List.length_map]
  have w3 := same_upd (o := .lst (st.map V.str)) hr1
  refine ⟨(by show 2 ≤ sizeLine; decide), fun q2 hq2 => ?_⟩
  have w4 := same_upd (o := .lst [.int (gn.length : Nat), .ref r1]) hq2
  refine ⟨(by show 2 ≤ sizeLine; decide), fun S3 hS3 => ?_⟩
  have w5 := same_upd (o := .lst [.ref q1, .ref q2]) hS3
  have w6 := ((w1.trans w2).trans (w3.trans w4)).trans w5
  have x0 := (w2.trans ((w3.trans w4).trans w5)) _ _ (upd_same (H := H16) (a := r0) (o := .lst []))
  have x1 := ((w3.trans w4).trans w5) _ _ (upd_same (H := upd H16 r0 (.lst [])) (a := q1) (o := .lst [.int 0, .ref r0]))
  have x2 := (w4.trans w5) _ _ (upd_same (H := upd (upd H16 r0 (.lst [])) q1 (.lst [.int 0, .ref r0])) (a := r1) (o := .lst (st.map V.str)))
  have x3 := w5 _ _ (upd_same (H := upd (upd (upd H16 r0 (.lst [])) q1 (.lst [.int 0, .ref r0])) r1 (.lst (st.map V.str))) (a := q2) (o := .lst [.int (gn.length : Nat), .ref r1]))
  have x4 := upd_same (H := upd (upd (upd (upd H16 r0 (.lst [])) q1 (.lst [.int 0, .ref r0])) r1 (.lst (st.map V.str))) q2 (.lst [.int (gn.length : Nat), .ref r1])) (a := S3) (o := .lst [.ref q1, .ref q2])
  have w416 := s416.trans w6
  generalize upd (upd (upd (upd (upd H16 r0 (.lst [])) q1 (.lst [.int 0, .ref r0])) r1 (.lst (st.map V.str))) q2 (.lst [.int (gn.length : Nat), .ref r1])) S3 (.lst [.ref q1, .ref q2]) = H17 at x0 x1 x2 x3 x4 w416 ⊢
  have w017 := s04.trans w416
  refine ⟨a, g, S3, ps, gn, [(q1, 0, r0, []), (q2, gn.length, r1, st)], rfl, hk w017, hpl, irr, .inl (tg.same w017), .inl x4, (fun q hq => ?_), (by simp), (by show 2 ≤ 100; decide), (fun q hq => ?_), (fun _ T18 H18 s18 told18 _ => ?_), fun k hb => (nb k hb).elim⟩
  · rcases List.mem_cons.mp hq with e | e
    · subst e
      exact ⟨.inr x1, .inr x0⟩
    · rw [List.mem_singleton.mp e]
      exact ⟨.inr x3, .inr x2⟩
  · rcases List.mem_cons.mp hq with e | e
    · subst e
      exact few.1
    · rw [List.mem_singleton.mp e]
      exact few.2
  have told18' : SeenAt H18 T18 ps [([], [], []), (gn, st, [])] := by
    have z : SeenAt H18 T18 ps (partsS gn [(0, []), (gn.length, st)]) := told18
    rwa [two_parts] at z
  refine ⟨_, dt, rfl, dsh _ _ told18', _, rfl, rfl, ?_⟩
  rw [decide_eq_true rfl]
  refine ⟨_, rfl, iteT ?_⟩
  refine ⟨_, rfl, S, _, rfl, .inl (.inl (.inl ((w416.trans s18) _ _ eS))), rfl, ?_⟩
  exact q _ (w017.trans s18)
/-! ### _law_right -/
abbrev sRight : Stmt := topS 67
abbrev nRight : List Str := ["_law_box_here", "_law_pool", "_law_pals_here", "_law_olds", "_law_deeds", "_law_gone", "_law_stand", "_law_new", "_law_name", "_law_mine"]
abbrev pRight : List Str := ["_law_box_here"]
theorem scRight : FnScope nRight pRight (defScope sRight) := ⟨rfl, rfl, rfl, by decide +kernel, rfl, by decide +kernel, by decide +kernel⟩
-- slots: 0:box_here 1:pool 2:pals_here 3:olds* 4:deeds 5:gone 6:stand 7:new 8:name 9:mine
theorem ok_right {f : Addr} {fd : FuncData} (B : Blt mg) (CLnR : Cal P w K mg base 8 "_law_line_right" ["_law_pals_here", "_law_olds", "_law_gone", "_law_stand", "_law_mine"] spLnR38) (CN : Cal P w K mg base 2 "_law_names" ["_law_box_here", "_law_many"] spNames) (CP : Cal P w K mg base 2 "_law_pals" ["_law_box_here", "_law_pool"] spPals) (CSeR : Cal P w K mg base 10 "_law_seen_right" ["_law_pals_here", "_law_gone", "_law_stand"] spSeR38) (CSpo : Cal P w K mg base 2 "_law_spoilt" ["_law_box_here", "_law_olds", "_law_gone", "_law_stand"] spSpoilt) (CSy : Cal P w K mg base 5 "_law_story" ["_law_box_here", "_law_pals_here", "_law_pool", "_law_far", "_law_most"] spStory) (CT : Cal P w K mg base 1 "_law_take" ["_law_box_here", "_law_many"] spTake) (F : Fun K "_law_right" "_law_right" sRight f fd) : FnOk P w K mg base CX0 11 f fd pRight spRight := by
  refine fok F scRight (fun vs H Q E h => ?_) (fun cdv A outer s H vs Q E hr h => ?_)
  · obtain ⟨b, rfl, _⟩ := h
    rfl
  have hu := hu_of hr
  refine ⟨_, pss_cons (ps_set (i := 1) scRight.nd rfl (.inl rfl) (pe_cal CN hr (pa_cons (pv 0) (pa_cons (pe_op op_add pe_int (pe_cal CT hr (pa_cons (pv 0) (pa_cons pe_int pa_nil)))) pa_nil))))
    (pss_cons (ps_set (i := 2) scRight.nd rfl (.inl rfl) (pe_cal CP hr (pa_cons (pv 0) (pa_cons (pv 1) pa_nil))))
    (pss_cons (ps_asg (pe_cal CSy hr (pa_cons (pv 0) (pa_cons (pv 2) (pa_cons (pv 1) (pa_cons pe_int (pa_cons pe_int pa_nil)))))) (pg_tup rfl (pgs_cons (pg_name (i := 3) scRight.nd rfl (.inr rfl)) (pgs_cons (pg_name (i := 4) scRight.nd rfl (.inl rfl)) (pgs_cons (pg_name (i := 5) scRight.nd rfl (.inl rfl)) (pgs_cons (pg_name (i := 6) scRight.nd rfl (.inl rfl)) pgs_nil))))))
    (pss_cons (ps_mid (ps_if (pt_cmpR op_eq (pe_cal CT hr (pa_cons (pv 0) (pa_cons pe_int pa_nil))) pe_int (nomark _))
      (pss_one (ps_asg (pe_cal CSpo hr (pa_cons (pv 0) (pa_cons (pv 3) (pa_cons (pv 5) (pa_cons (pv 6) pa_nil))))) (pg_tup rfl (pgs_cons (pg_name (i := 5) scRight.nd rfl (.inl rfl)) (pgs_cons (pg_name (i := 6) scRight.nd rfl (.inl rfl)) pgs_nil)))))
      pss_nil))
    (pss_cons (ps_setLc (i := 7) (own := [("_law_name", 8)]) (g := gName 8) (tt := tTest (tOp (rIn K true) (tVar 8) (tVar 3))) (te := tVar 8) rfl scRight.nd rfl rfl (sw_true rfl rfl rfl (by decide +kernel)) (pi_tup (pe_op op_catM (pv 5) (pv 6))) (blkOk_by (N := nRight) (sc := defScope sRight) (by decide +kernel)) (fun _ _ _ _ _ => pg_name (i := 8) scRight.nd rfl (Or.inl rfl)) (fun _ _ _ _ _ => pts_one (pt_cmpR op_notIn_seq (pv 8) (pv 3) (by rfl))) (fun _ _ _ _ _ => pv 8))
    (pss_cons (ps_set (i := 9) scRight.nd rfl (.inl rfl) (pe_ix ix_list (pv 7) (pe_cal CT hr (pa_cons (pv 0) (pa_cons (pe_callB call_len_seq (by rfl) B.len PySem.boot_len (pa_cons (pv 7) pa_nil)) pa_nil))) (fun _ _ => rfl)))
    (pss_one (ps_ret (pe_and (pe_cal CLnR hr (pa_cons (pv 2) (pa_cons (pv 3) (pa_cons (pv 5) (pa_cons (pv 6) (pa_cons (pv 9) pa_nil)))))) (pe_one (pe_cal CSeR hr (pa_cons (pv 2) (pa_cons (pv 5) (pa_cons (pv 6) pa_nil))))))))))))), ?_⟩
  obtain ⟨b, rfl, hb, q⟩ := h
  -- names, pals
  refine ⟨_, rfl, .ref b, rfl, b, 7, rfl, hb, by decide, by decide, fun v H1 o1 b1 v0 v1 => ⟨_, _, rfl, rfl, ?_⟩⟩
  refine ⟨b, ((2 : Int) + v).toNat, ?_, b1, by omega, fun l pool H2 o2 b2 nl e2 n2 nd2 ok2 => ?_⟩
  · rw [Int.toNat_of_nonneg (by omega)]
    rfl
  have gp : Goods pool := fun x hx => (ok2 x hx).good
  have lp : 2 ≤ pool.length ∧ pool.length ≤ 8 := by omega
  refine ⟨_, rfl, _, rfl, b, l, pool, rfl, b2, e2, nd2, by omega, fun a bs H3 o3 b3 na e3 p3 g3 c3 srt => ?_⟩
  have hpa3 : PalsAt H3 a (bs.map (·.2)) := ⟨bs, e3, p3, rfl⟩
  have hpo : PalsOk (bs.map (·.2)) := g3.ok gp
  have irr : Irr (bs.map (·.2)) := g3.irr
  have hpl : (bs.map (·.2)).length ≤ 1000 := by rw [List.length_map]; exact c3
  have l3 : H3 l = some (.lst (pool.map V.str)) := o3 _ _ (b2.ne_strs e2) e2
  generalize bs.map (·.2) = ps at hpa3 hpo irr hpl
  -- the story
  refine ⟨_, rfl, _, rfl, _, rfl, b, a, l, ps, pool, 3, 3, rfl, b3, hpa3, hpo, l3, gp, nd2, by decide, by decide, (by omega), fun T o p g t olds ds st gn H5 o5 b5 eT to np ep dd pm mo ln go tg tt => ?_⟩
  refine ⟨T, _, rfl, .inl (.inl eT), rfl, _, _, rfl, _, _, rfl, _, _, rfl, _, _, rfl, rfl, ?_⟩
  have pmg : (gn ++ st).Perm pool := by
    refine (go_perm _ _ _ _ go).trans ?_
    show (comers (ds.map fun q : LD => q.2) ++ ([] ++ olds)).Perm pool
    rw [List.nil_append]
    exact List.perm_append_comm.trans pm
  have sub0 : olds.Sublist (gn ++ st) := by simpa using go_sub _ go
  have lo : olds.length < pool.length := by omega
  have o05 : Oth b H H5 := ((o1.trans o2).trans o3).trans o5
  have hpa5 := hpa3.oth o5 b3
  -- spoilt or not
  refine ⟨fun σ' H' => ∃ (g t : Addr) (gn st : List Str), σ' = [some (.ref b), some (.ref l), some (.ref a), some (.ref o), some (.ref p), some (.ref g), some (.ref t), none, none, none] ∧ Oth b H5 H' ∧ IsBox H' b ∧ TupAt H' o (olds.map V.str) ∧ TupAt H' g (gn.map V.str) ∧ TupAt H' t (st.map V.str) ∧ (gn ++ st).Perm pool ∧ olds.Sublist (gn ++ st), ?_, ?_⟩
  · have lg : gn.length + st.length ≤ 100 := by
      have := pmg.length_eq
      rw [List.length_append] at this
      omega
    refine ⟨_, rfl, b, 3, rfl, b5, by decide, by decide, fun v2 H6 o6 b6 _ _ => ⟨rfl, _, rfl, ite2 (fun c => ?_) (fun c => ?_)⟩⟩
    · refine ⟨_, rfl, _, rfl, _, rfl, _, rfl, b, o, g, t, olds, gn, st, rfl, b6, .inl (to.oth o6 b5), tg.oth o6 b5, tt.oth o6 b5, lg, fun T' g' t' gn' st' H8 o8 b8 eT8 tg8 tt8 l8 pm8 f8 => ?_⟩
      refine ⟨T', _, rfl, .inl (.inl eT8), rfl, _, _, rfl, _, _, rfl, rfl, ?_⟩
      have nd7 : (gn ++ st).Nodup := pmg.nodup_iff.mpr nd2
      have nd8 : (gn' ++ st').Nodup := pm8.nodup_iff.mpr nd7
      exact ⟨g', t', gn', st', rfl, o6.trans o8, b8, (to.oth o6 b5).oth o8 b6, tg8, tt8, pm8.trans pmg, kept_line nd7 nd8 sub0 f8⟩
    · exact ⟨g, t, gn, st, rfl, o6, b6, to.oth o6 b5, tg.oth o6 b5, tt.oth o6 b5, pmg, sub0⟩
  clear to tg tt pmg sub0 go pm mo ln dd ep np eT
  rintro σ' H6 ⟨g, t, gn, st, rfl, o6, b6, to, tg, tt, pmg, sub⟩
  have lw : gn.length + st.length = pool.length := by
    have := pmg.length_eq
    rw [List.length_append] at this
    exact this
  have nd : (gn ++ st).Nodup := pmg.nodup_iff.mpr nd2
  have okw : ∀ y ∈ gn ++ st, NameOk y := fun y my => ok2 y (pmg.mem_iff.mp my)
  have hpa6 := hpa5.oth o6 b5
  -- the new ones
  refine ⟨_, rfl, _, rfl, g, t, _, _, rfl, rfl, tg, tt, ?_, fun w H7 s7 e7 => ?_⟩
  · rw [List.length_map, List.length_map]
    exact small_le (by omega)
  rw [← List.map_append] at e7
  have e7' : TupAt H7 w ((gn ++ st).map V.str) := e7
  refine ⟨w, rfl, ⟨_, e7'.sq⟩, fun L hL => ?_⟩
  refine lc_take (walk_tup (xs := (gn ++ st).map V.str)) (fun y => !decide (y ∈ olds)) (by rw [List.length_append]; omega) hL (fun H' s => (e7'.same s).sq) ?_ ?_
  · rintro j y v H8 H8' kk k0 hy s8 ⟨rfl, ex⟩ k1 k2
    rw [ix_map hy] at ex
    cases ex
    refine ⟨rfl, .str y, rfl, .ref o, rfl, o, _, rfl, .inr (((to.same s7).same s8).sq), rfl, flat_strs _, _, rfl, ?_⟩
    rw [inV_strs]
    exact ite2 (fun c => ⟨_, rfl, k1 c _ (Same.refl _)⟩) (fun c => k2 (Bool.eq_false_iff.mpr c) _ (Same.refl _))
  intro H8 s8 e8
  have pos : 0 < ((gn ++ st).filter fun y => !decide (y ∈ olds)).length := by
    refine List.length_pos_iff.mpr fun z => ?_
    have all : ∀ y ∈ gn ++ st, y ∈ olds := fun y my => by
      by_cases c : y ∈ olds
      · exact c
      · have : y ∈ (gn ++ st).filter fun y => !decide (y ∈ olds) := List.mem_filter.mpr ⟨my, by simp [c]⟩
        rw [z] at this
        cases this
    have := nd_lenS (gn ++ st) olds nd all
    rw [List.length_append] at this
    omega
  have fin : ∀ y ∈ (gn ++ st).filter fun y => !decide (y ∈ olds), y ∈ gn ++ st ∧ y ∉ olds := fun y my => by
    obtain ⟨m1, m2⟩ := List.mem_filter.mp my
    exact ⟨m1, by simpa using m2⟩
  have lnw : ((gn ++ st).filter fun y => !decide (y ∈ olds)).length ≤ 8 := by
    refine Nat.le_trans (List.length_filter_le _ _) ?_
    rw [List.length_append]
    omega
  generalize ((gn ++ st).filter fun y => !decide (y ∈ olds)) = nw at e8 pos fin lnw
  have s68 := s7.trans s8
  have b8 := b6.same s68
  refine ⟨_, rfl, _, rfl, _, rfl, L, _, rfl, .inl (.inl (.inl e8)), b, nw.length, ?_, b8, by omega, by omega, fun v3 H9 o9 b9 v30 v31 => ?_⟩
  · rw [List.length_map]
    rfl
  obtain ⟨x, hx⟩ : ∃ x, nw[v3.toNat]? = some x := ⟨_, List.getElem?_eq_getElem (by omega)⟩
  have ev : v3 = ((v3.toNat : Nat) : Int) := (Int.toNat_of_nonneg v30).symm
  have e9 := o9 _ _ (b8.ne_strs e8) e8
  have fx := fin x (List.mem_of_getElem? hx)
  refine ⟨L, _, v3, _, rfl, rfl, .inl (.inl e9), (by rw [ev]; exact atI_nat (ix_map hx)), ?_⟩
  have hpa9 := (hpa6.same s68).oth o9 b8
  have to9 := (to.same s68).oth o9 b8
  have tg9 := (tg.same s68).oth o9 b8
  have tt9 := (tt.same s68).oth o9 b8
  have o09 : Oth b H H9 := ((o05.trans o6).trans (.of s68)).trans o9
  refine ⟨_, rfl, _, rfl, _, rfl, _, rfl, _, rfl, a, o, g, t, x, ps, olds, gn, st, rfl, hpa9, hpo, irr, hpl, to9, tg9, tt9, okw, nd, by omega, sub, fx.1, fx.2, fun H10 s10 => ?_⟩
  refine ⟨_, rfl, iteT ?_⟩
  refine ⟨_, rfl, _, rfl, _, rfl, a, g, t, ps, gn, st, rfl, hpa9.same s10, hpo, irr, hpl, tg9.same s10, tt9.same s10, okw, nd, by omega, fun H11 s11 => q _ (o09.trans (.of (s10.trans s11)))⟩
/-! ### law -/
abbrev sLaw : Stmt := topS 68
abbrev nLaw : List Str := ["_law_script", "_law_cells_here", "_law_k"]
theorem scLaw : FnScope nLaw ["_law_script"] (defScope sLaw) := ⟨rfl, rfl, rfl, by decide +kernel, rfl, by decide +kernel, by decide +kernel⟩
theorem ok_law {f : Addr} {fd : FuncData} {n : Nat} (B : Blt mg) (CC : Cal P w K mg base 1 "_law_cells" ["_law_script", "_law_utmost"] (spCells K)) (CX : Cal P w K mg base 1 "_law_box" ["_law_cells_here", "_law_k"] spBox) (CR : Cal P w K mg base (n + 1) "_law_right" ["_law_box_here"] spRight) (F : Fun K "law" "law" sLaw f fd) : FnOk P w K mg base CX0 (n + 2) f fd ["_law_script"] (spLaw K) := by
  refine fok F scLaw (fun vs H Q E h => ?_) (fun cdv A outer s H vs Q E hr h => ?_)
  · obtain ⟨a, ns, rfl, _⟩ := h
    rfl
  obtain ⟨a, ns, rfl, ha, hn, q⟩ := h
  have h1 : Room 1 _ := hr.mono (by omega)
  refine ⟨_, pss_cons (ps_set (i := 1) scLaw.nd rfl (.inr rfl) (pe_cal CC h1 (pa_cons (pv 0) (pa_cons pe_int pa_nil))))
    (pss_one (ps_ret (pe_callB (cr_all rfl) (by rfl) B.all (by decide +kernel) (pa_cons (pe_lc (own := [("_law_k", 2)]) (g := gName 2) (tt := tYes) rfl scLaw.nd (pi_range1 (by rfl) B.range (pa_cons (pe_callB call_len_seq (by rfl) B.len PySem.boot_len (pa_cons (pv 1) pa_nil)) pa_nil)) (blkOk_by (N := nLaw) (sc := defScope sLaw) (by decide +kernel))
      (fun _ _ _ _ _ => pg_name (i := 2) scLaw.nd rfl (Or.inl rfl)) (fun _ _ _ _ _ => pts_nil) (fun _ _ _ _ _ => pe_cal CR hr (pa_cons (pe_cal CX h1 (pa_cons (pv 1) (pa_cons (pv 2) pa_nil))) pa_nil))) pa_nil)))), ?_⟩
  refine ⟨.ref a, rfl, a, ns, _, rfl, ha, hn, by decide, by decide, fun c ms H1 s1 nc e1 m0 m3 => ?_⟩
  refine ⟨.ref c, rfl, c, _, rfl, .inl (.inl (.inl e1)), _, rfl, ?_, ?_, fun D hD => ?_⟩
  · rw [List.length_map]
    omega
  · rw [List.length_map]
    omega
  rw [List.length_map]
  have ncD : c ≠ D := ne_of_none e1 hD
  refine lc_it (walk_range (lo := 0) (n := ((ms.length : Int)).toNat)) (fun i H' => H' c = some (.lst (ms.map V.int)) ∧ H' D = some (.lst ((List.replicate i true).map V.bl))) ?_ (fun _ _ _ _ => trivial) ?_ ?_
  · exact ⟨(upd_ne ncD).trans e1, upd_same⟩
  · rintro i x H3 H2 hi ⟨e2, d2⟩ ⟨rfl, rfl⟩
    have ei : (0 : Int) + (i : Int) = (i : Int) := Int.zero_add _
    refine ⟨rfl, ⟨.ref c, rfl, _, rfl, c, ms, i, congrArg (fun z => [V.ref c, V.int z]) ei, e2, by omega, by omega, fun b H4 s4 nb b4 => ?_⟩⟩
    have c4 := s4 _ _ e2
    have d4 := s4 _ _ d2
    have ncb : c ≠ b := ne_of_none e2 nb
    have nDb : D ≠ b := ne_of_none d2 nb
    refine ⟨b, rfl, b4, fun H5 o5 => ?_⟩
    have c5 := o5 _ _ ncb c4
    have d5 := o5 _ _ nDb d4
    refine ⟨_, d5, ?_, (upd_ne ncD).trans c5, ?_⟩
    · rw [List.length_map, List.length_replicate]
      exact small1000 (by omega)
    · rw [upd_same, List.replicate_succ', List.map_append]
      rfl
  · rintro H2 ⟨e2, d2⟩
    refine ⟨D, _, rfl, .inl (.inl d2), ?_⟩
    rw [show (List.replicate ((ms.length : Int)).toNat true).all id = true by simp]
    exact q _
end
/-! ### what the top has written; the law's own head -/
theorem all_mk {l : PySem.W.OpenLaw} {w : World} {K : PySem.W.Frag} {h : Heap} {mg : Str → Option Value} {fa f1 f2 f3 f4 f5 f6 f7 f8 f9 f10 f11 f12 f13 f14 f15 f16 f17 f18 f19 f20 f21 f22 f23 f24 f25 f26 f27 f28 f29 f30 f31 f32 f33 f34 f35 f36 f37 f38 f39 f40 f41 f42 f43 f44 f45 f46 f47 f48 f49 f50 f51 f52 f53 f54 : Addr} (XK : K.In h) (G : h.Ns mainGlobals mg) (hfa : mg "law" = some (.ref fa))
    {od1 an1 od2 an2 od3 an3 od4 an4 od5 an5 od6 an6 od7 an7 od8 an8 od9 an9 od10 an10 od11 an11 od12 an12 od13 an13 od14 an14 od15 an15 od16 an16 od17 an17 od18 an18 od19 an19 od20 an20 od21 an21 od22 an22 od23 an23 od24 an24 od25 an25 od26 an26 od27 an27 od28 an28 od29 an29 od30 an30 od31 an31 od32 an32 od33 an33 od34 an34 od35 an35 od36 an36 od37 an37 od38 an38 od39 an39 od40 an40 od41 an41 od42 an42 od43 an43 od44 an44 od45 an45 od46 an46 od47 an47 od48 an48 od49 an49 od50 an50 od51 an51 od52 an52 od53 an53 od54 an54 : Option Addr} {sl1 sl2 sl3 sl4 sl5 sl6 sl7 sl8 sl9 sl10 sl11 sl12 sl13 sl14 sl15 sl16 sl17 sl18 sl19 sl20 sl21 sl22 sl23 sl24 sl25 sl26 sl27 sl28 sl29 sl30 sl31 sl32 sl33 sl34 sl35 sl36 sl37 sl38 sl39 sl40 sl41 sl42 sl43 sl44 sl45 sl46 sl47 sl48 sl49 sl50 sl51 sl52 sl53 sl54 : Array (Option Value)} {oc1 kV1 dc1 pm1 cd1 ct1 oc2 kV2 dc2 pm2 cd2 ct2 oc3 kV3 dc3 pm3 cd3 ct3 oc4 kV4 dc4 pm4 cd4 ct4 oc5 kV5 dc5 pm5 cd5 ct5 oc6 kV6 dc6 pm6 cd6 ct6 oc7 kV7 dc7 pm7 cd7 ct7 oc8 kV8 dc8 pm8 cd8 ct8 oc9 kV9 dc9 pm9 cd9 ct9 oc10 kV10 dc10 pm10 cd10 ct10 oc11 kV11 dc11 pm11 cd11 ct11 oc12 kV12 dc12 pm12 cd12 ct12 oc13 kV13 dc13 pm13 cd13 ct13 oc14 kV14 dc14 pm14 cd14 ct14 oc15 dc15 pm15 cd15 ct15 oc16 dc16 pm16 cd16 ct16 oc17 dc17 pm17 cd17 ct17 oc18 kV18 dc18 pm18 cd18 ct18 oc19 kV19 dc19 pm19 cd19 ct19 oc20 kV20 dc20 pm20 cd20 ct20 oc21 kV21 dc21 pm21 cd21 ct21 oc22 kV22 dc22 pm22 cd22 ct22 oc23 kV23 dc23 pm23 cd23 ct23 oc24 kV24 dc24 pm24 cd24 ct24 oc25 kV25 dc25 pm25 cd25 ct25 oc26 kV26 dc26 pm26 cd26 ct26 oc27 kV27 dc27 pm27 cd27 ct27 oc28 kV28 dc28 pm28 cd28 ct28 oc29 dc29 pm29 cd29 ct29 oc30 dc30 pm30 cd30 ct30 oc31 kV31 dc31 pm31 cd31 ct31 oc32 kV32 dc32 pm32 cd32 ct32 oc33 dc33 pm33 cd33 ct33 oc34 kV34 dc34 pm34 cd34 ct34 oc35 kV35 dc35 pm35 cd35 ct35 oc36 kV36 dc36 pm36 cd36 ct36 oc37 kV37 dc37 pm37 cd37 ct37 oc38 kV38 dc38 pm38 cd38 ct38 oc39 kV39 dc39 pm39 cd39 ct39 oc40 kV40 dc40 pm40 cd40 ct40 oc41 kV41 dc41 pm41 cd41 ct41 oc42 kV42 dc42 pm42 cd42 ct42 oc43 kV43 dc43 pm43 cd43 ct43 oc44 kV44 dc44 pm44 cd44 ct44 oc45 kV45 dc45 pm45 cd45 ct45 oc46 kV46 dc46 pm46 cd46 ct46 oc47 kV47 dc47 pm47 cd47 ct47 oc48 kV48 dc48 pm48 cd48 ct48 oc49 kV49 dc49 pm49 cd49 ct49 oc50 kV50 dc50 pm50 cd50 ct50 oc51 kV51 dc51 pm51 cd51 ct51 oc52 kV52 dc52 pm52 cd52 ct52 oc53 kV53 dc53 pm53 cd53 ct53 oc54 kV54 dc54 pm54 cd54 ct54 : Value}
    (a1 : PySem.W.nsIn K mainGlobals "is_name" = some (some (.ref f1))) (l1 : K.lookup f1 = some ⟨oc1, od1, .func (PySem.W.fnOf "is_name" "is_name" (defArgs sIsName) (defBody sIsName) (defScope sIsName) .none kV1 dc1 pm1 an1 cd1 ct1), sl1⟩) (c1 : PySem.W.codeIn K cd1 "is_name" = true) (k1 : PySem.W.keepIn K (.ref f1) = true)
    (a2 : PySem.W.nsIn K mainGlobals "is_number" = some (some (.ref f2))) (l2 : K.lookup f2 = some ⟨oc2, od2, .func (PySem.W.fnOf "is_number" "is_number" (defArgs sIsNum) (defBody sIsNum) (defScope sIsNum) .none kV2 dc2 pm2 an2 cd2 ct2), sl2⟩) (c2 : PySem.W.codeIn K cd2 "is_number" = true) (k2 : PySem.W.keepIn K (.ref f2) = true)
    (a3 : PySem.W.nsIn K mainGlobals "is_row" = some (some (.ref f3))) (l3 : K.lookup f3 = some ⟨oc3, od3, .func (PySem.W.fnOf "is_row" "is_row" (defArgs sIsRow) (defBody sIsRow) (defScope sIsRow) .none kV3 dc3 pm3 an3 cd3 ct3), sl3⟩) (c3 : PySem.W.codeIn K cd3 "is_row" = true) (k3 : PySem.W.keepIn K (.ref f3) = true)
    (a4 : PySem.W.nsIn K mainGlobals "both_ways" = some (some (.ref f4))) (l4 : K.lookup f4 = some ⟨oc4, od4, .func (PySem.W.fnOf "both_ways" "both_ways" (defArgs sBoth) (defBody sBoth) (defScope sBoth) .none kV4 dc4 pm4 an4 cd4 ct4), sl4⟩) (c4 : PySem.W.codeIn K cd4 "both_ways" = true) (k4 : PySem.W.keepIn K (.ref f4) = true)
    (a5 : PySem.W.nsIn K mainGlobals "last_friend_place" = some (some (.ref f5))) (l5 : K.lookup f5 = some ⟨oc5, od5, .func (PySem.W.fnOf "last_friend_place" "last_friend_place" (defArgs sLfp) (defBody sLfp) (defScope sLfp) .none kV5 dc5 pm5 an5 cd5 ct5), sl5⟩) (c5 : PySem.W.codeIn K cd5 "last_friend_place" = true) (k5 : PySem.W.keepIn K (.ref f5) = true)
    (a6 : PySem.W.nsIn K mainGlobals "loose_at" = some (some (.ref f6))) (l6 : K.lookup f6 = some ⟨oc6, od6, .func (PySem.W.fnOf "loose_at" "loose_at" (defArgs sLooseAt) (defBody sLooseAt) (defScope sLooseAt) .none kV6 dc6 pm6 an6 cd6 ct6), sl6⟩) (c6 : PySem.W.codeIn K cd6 "loose_at" = true) (k6 : PySem.W.keepIn K (.ref f6) = true)
    (a7 : PySem.W.nsIn K mainGlobals "hindmost_loose" = some (some (.ref f7))) (l7 : K.lookup f7 = some ⟨oc7, od7, .func (PySem.W.fnOf "hindmost_loose" "hindmost_loose" (defArgs sHind) (defBody sHind) (defScope sHind) .none kV7 dc7 pm7 an7 cd7 ct7), sl7⟩) (c7 : PySem.W.codeIn K cd7 "hindmost_loose" = true) (k7 : PySem.W.keepIn K (.ref f7) = true)
    (a8 : PySem.W.nsIn K mainGlobals "gone_and_stayed" = some (some (.ref f8))) (l8 : K.lookup f8 = some ⟨oc8, od8, .func (PySem.W.fnOf "gone_and_stayed" "gone_and_stayed" (defArgs sStayed) (defBody sStayed) (defScope sStayed) .none kV8 dc8 pm8 an8 cd8 ct8), sl8⟩) (c8 : PySem.W.codeIn K cd8 "gone_and_stayed" = true) (k8 : PySem.W.keepIn K (.ref f8) = true)
    (a9 : PySem.W.nsIn K mainGlobals "line_of" = some (some (.ref f9))) (l9 : K.lookup f9 = some ⟨oc9, od9, .func (PySem.W.fnOf "line_of" "line_of" (defArgs sLineOf) (defBody sLineOf) (defScope sLineOf) .none kV9 dc9 pm9 an9 cd9 ct9), sl9⟩) (c9 : PySem.W.codeIn K cd9 "line_of" = true) (k9 : PySem.W.keepIn K (.ref f9) = true)
    (a10 : PySem.W.nsIn K mainGlobals "first_astray" = some (some (.ref f10))) (l10 : K.lookup f10 = some ⟨oc10, od10, .func (PySem.W.fnOf "first_astray" "first_astray" (defArgs sFirstA) (defBody sFirstA) (defScope sFirstA) .none kV10 dc10 pm10 an10 cd10 ct10), sl10⟩) (c10 : PySem.W.codeIn K cd10 "first_astray" = true) (k10 : PySem.W.keepIn K (.ref f10) = true)
    (a11 : PySem.W.nsIn K mainGlobals "refuse_astray" = some (some (.ref f11))) (l11 : K.lookup f11 = some ⟨oc11, od11, .func (PySem.W.fnOf "refuse_astray" "refuse_astray" (defArgs sAstray) (defBody sAstray) (defScope sAstray) .none kV11 dc11 pm11 an11 cd11 ct11), sl11⟩) (c11 : PySem.W.codeIn K cd11 "refuse_astray" = true) (k11 : PySem.W.keepIn K (.ref f11) = true)
    (a12 : PySem.W.nsIn K mainGlobals "traced_back" = some (some (.ref f12))) (l12 : K.lookup f12 = some ⟨oc12, od12, .func (PySem.W.fnOf "traced_back" "traced_back" (defArgs sTraced) (defBody sTraced) (defScope sTraced) .none kV12 dc12 pm12 an12 cd12 ct12), sl12⟩) (c12 : PySem.W.codeIn K cd12 "traced_back" = true) (k12 : PySem.W.keepIn K (.ref f12) = true)
    (a13 : PySem.W.nsIn K mainGlobals "clause" = some (some (.ref f13))) (l13 : K.lookup f13 = some ⟨oc13, od13, .func (PySem.W.fnOf "clause" "clause" (defArgs sClause) (defBody sClause) (defScope sClause) .none kV13 dc13 pm13 an13 cd13 ct13), sl13⟩) (c13 : PySem.W.codeIn K cd13 "clause" = true) (k13 : PySem.W.keepIn K (.ref f13) = true)
    (a14 : PySem.W.nsIn K mainGlobals "paper_of" = some (some (.ref f14))) (l14 : K.lookup f14 = some ⟨oc14, od14, .func (PySem.W.fnOf "paper_of" "paper_of" (defArgs sPaper) (defBody sPaper) (defScope sPaper) .none kV14 dc14 pm14 an14 cd14 ct14), sl14⟩) (c14 : PySem.W.codeIn K cd14 "paper_of" = true) (k14 : PySem.W.keepIn K (.ref f14) = true)
    {kD15 kE15 : Addr} {kd15 : Option Addr} {ks15 : Array (Option Value)} {kn15 : Nat} (a15 : PySem.W.nsIn K mainGlobals "history_of" = some (some (.ref f15))) (l15 : K.lookup f15 = some ⟨oc15, od15, .func (PySem.W.fnOf "history_of" "history_of" (defArgs sHist) (defBody sHist) (defScope sHist) .none (.ref kD15) dc15 pm15 an15 cd15 ct15), sl15⟩) (c15 : PySem.W.codeIn K cd15 "history_of" = true) (k15 : PySem.W.keepIn K (.ref f15) = true) (n15 : PySem.W.nsIn K kD15 "elders" = some (some (.ref kE15))) (e15 : K.lookup kE15 = some ⟨.type "tuple", kd15, .seq #[] kn15, ks15⟩)
    {kD16 kE16 : Addr} {kd16 : Option Addr} {ks16 : Array (Option Value)} {kn16 : Nat} (a16 : PySem.W.nsIn K mainGlobals "never_in" = some (some (.ref f16))) (l16 : K.lookup f16 = some ⟨oc16, od16, .func (PySem.W.fnOf "never_in" "never_in" (defArgs sNever) (defBody sNever) (defScope sNever) .none (.ref kD16) dc16 pm16 an16 cd16 ct16), sl16⟩) (c16 : PySem.W.codeIn K cd16 "never_in" = true) (k16 : PySem.W.keepIn K (.ref f16) = true) (n16 : PySem.W.nsIn K kD16 "elders" = some (some (.ref kE16))) (e16 : K.lookup kE16 = some ⟨.type "tuple", kd16, .seq #[] kn16, ks16⟩)
    {kD17 kE17 : Addr} {kd17 : Option Addr} {ks17 : Array (Option Value)} {kn17 : Nat} (a17 : PySem.W.nsIn K mainGlobals "times_of" = some (some (.ref f17))) (l17 : K.lookup f17 = some ⟨oc17, od17, .func (PySem.W.fnOf "times_of" "times_of" (defArgs sTimes) (defBody sTimes) (defScope sTimes) .none (.ref kD17) dc17 pm17 an17 cd17 ct17), sl17⟩) (c17 : PySem.W.codeIn K cd17 "times_of" = true) (k17 : PySem.W.keepIn K (.ref f17) = true) (n17 : PySem.W.nsIn K kD17 "elders" = some (some (.ref kE17))) (e17 : K.lookup kE17 = some ⟨.type "tuple", kd17, .seq #[] kn17, ks17⟩)
    (a18 : PySem.W.nsIn K mainGlobals "sights_ahead" = some (some (.ref f18))) (l18 : K.lookup f18 = some ⟨oc18, od18, .func (PySem.W.fnOf "sights_ahead" "sights_ahead" (defArgs sAhead) (defBody sAhead) (defScope sAhead) .none kV18 dc18 pm18 an18 cd18 ct18), sl18⟩) (c18 : PySem.W.codeIn K cd18 "sights_ahead" = true) (k18 : PySem.W.keepIn K (.ref f18) = true)
    (a19 : PySem.W.nsIn K mainGlobals "stretches" = some (some (.ref f19))) (l19 : K.lookup f19 = some ⟨oc19, od19, .func (PySem.W.fnOf "stretches" "stretches" (defArgs sStretch) (defBody sStretch) (defScope sStretch) .none kV19 dc19 pm19 an19 cd19 ct19), sl19⟩) (c19 : PySem.W.codeIn K cd19 "stretches" = true) (k19 : PySem.W.keepIn K (.ref f19) = true)
    (a20 : PySem.W.nsIn K mainGlobals "can_be_seen" = some (some (.ref f20))) (l20 : K.lookup f20 = some ⟨oc20, od20, .func (PySem.W.fnOf "can_be_seen" "can_be_seen" (defArgs sCanSeen) (defBody sCanSeen) (defScope sCanSeen) .none kV20 dc20 pm20 an20 cd20 ct20), sl20⟩) (c20 : PySem.W.codeIn K cd20 "can_be_seen" = true) (k20 : PySem.W.keepIn K (.ref f20) = true)
    (a21 : PySem.W.nsIn K mainGlobals "refuse_bad_sights" = some (some (.ref f21))) (l21 : K.lookup f21 = some ⟨oc21, od21, .func (PySem.W.fnOf "refuse_bad_sights" "refuse_bad_sights" (defArgs sRefBad) (defBody sRefBad) (defScope sRefBad) .none kV21 dc21 pm21 an21 cd21 ct21), sl21⟩) (c21 : PySem.W.codeIn K cd21 "refuse_bad_sights" = true) (k21 : PySem.W.keepIn K (.ref f21) = true)
    (a22 : PySem.W.nsIn K mainGlobals "seen_after" = some (some (.ref f22))) (l22 : K.lookup f22 = some ⟨oc22, od22, .func (PySem.W.fnOf "seen_after" "seen_after" (defArgs sSeenA) (defBody sSeenA) (defScope sSeenA) .none kV22 dc22 pm22 an22 cd22 ct22), sl22⟩) (c22 : PySem.W.codeIn K cd22 "seen_after" = true) (k22 : PySem.W.keepIn K (.ref f22) = true)
    (a23 : PySem.W.nsIn K mainGlobals "host_place" = some (some (.ref f23))) (l23 : K.lookup f23 = some ⟨oc23, od23, .func (PySem.W.fnOf "host_place" "host_place" (defArgs sHostP) (defBody sHostP) (defScope sHostP) .none kV23 dc23 pm23 an23 cd23 ct23), sl23⟩) (c23 : PySem.W.codeIn K cd23 "host_place" = true) (k23 : PySem.W.keepIn K (.ref f23) = true)
    (a24 : PySem.W.nsIn K mainGlobals "coming_place" = some (some (.ref f24))) (l24 : K.lookup f24 = some ⟨oc24, od24, .func (PySem.W.fnOf "coming_place" "coming_place" (defArgs sComingP) (defBody sComingP) (defScope sComingP) .none kV24 dc24 pm24 an24 cd24 ct24), sl24⟩) (c24 : PySem.W.codeIn K cd24 "coming_place" = true) (k24 : PySem.W.keepIn K (.ref f24) = true)
    (a25 : PySem.W.nsIn K mainGlobals "stood_in" = some (some (.ref f25))) (l25 : K.lookup f25 = some ⟨oc25, od25, .func (PySem.W.fnOf "stood_in" "stood_in" (defArgs sStood) (defBody sStood) (defScope sStood) .none kV25 dc25 pm25 an25 cd25 ct25), sl25⟩) (c25 : PySem.W.codeIn K cd25 "stood_in" = true) (k25 : PySem.W.keepIn K (.ref f25) = true)
    (a26 : PySem.W.nsIn K mainGlobals "let_in" = some (some (.ref f26))) (l26 : K.lookup f26 = some ⟨oc26, od26, .func (PySem.W.fnOf "let_in" "let_in" (defArgs sLetIn) (defBody sLetIn) (defScope sLetIn) .none kV26 dc26 pm26 an26 cd26 ct26), sl26⟩) (c26 : PySem.W.codeIn K cd26 "let_in" = true) (k26 : PySem.W.keepIn K (.ref f26) = true)
    (a27 : PySem.W.nsIn K mainGlobals "reads_as_deed" = some (some (.ref f27))) (l27 : K.lookup f27 = some ⟨oc27, od27, .func (PySem.W.fnOf "reads_as_deed" "reads_as_deed" (defArgs sReads) (defBody sReads) (defScope sReads) .none kV27 dc27 pm27 an27 cd27 ct27), sl27⟩) (c27 : PySem.W.codeIn K cd27 "reads_as_deed" = true) (k27 : PySem.W.keepIn K (.ref f27) = true)
    (a28 : PySem.W.nsIn K mainGlobals "can_be_done" = some (some (.ref f28))) (l28 : K.lookup f28 = some ⟨oc28, od28, .func (PySem.W.fnOf "can_be_done" "can_be_done" (defArgs sCanBe) (defBody sCanBe) (defScope sCanBe) .none kV28 dc28 pm28 an28 cd28 ct28), sl28⟩) (c28 : PySem.W.codeIn K cd28 "can_be_done" = true) (k28 : PySem.W.keepIn K (.ref f28) = true)
    {kD29 kE29 : Addr} {kd29 : Option Addr} {ks29 : Array (Option Value)} {kn29 : Nat} (a29 : PySem.W.nsIn K mainGlobals "done" = some (some (.ref f29))) (l29 : K.lookup f29 = some ⟨oc29, od29, .func (PySem.W.fnOf "done" "done" (defArgs sDone) (defBody sDone) (defScope sDone) .none (.ref kD29) dc29 pm29 an29 cd29 ct29), sl29⟩) (c29 : PySem.W.codeIn K cd29 "done" = true) (k29 : PySem.W.keepIn K (.ref f29) = true) (n29 : PySem.W.nsIn K kD29 "row" = some (some (.ref kE29))) (e29 : K.lookup kE29 = some ⟨.type "tuple", kd29, .seq #[] kn29, ks29⟩)
    {kD30 kE30 : Addr} {kd30 : Option Addr} {ks30 : Array (Option Value)} {kn30 : Nat} (a30 : PySem.W.nsIn K mainGlobals "shows_history" = some (some (.ref f30))) (l30 : K.lookup f30 = some ⟨oc30, od30, .func (PySem.W.fnOf "shows_history" "shows_history" (defArgs sShowsH) (defBody sShowsH) (defScope sShowsH) .none (.ref kD30) dc30 pm30 an30 cd30 ct30), sl30⟩) (c30 : PySem.W.codeIn K cd30 "shows_history" = true) (k30 : PySem.W.keepIn K (.ref f30) = true) (n30 : PySem.W.nsIn K kD30 "elders" = some (some (.ref kE30))) (e30 : K.lookup kE30 = some ⟨.type "tuple", kd30, .seq #[] kn30, ks30⟩)
    (a31 : PySem.W.nsIn K mainGlobals "is_clause" = some (some (.ref f31))) (l31 : K.lookup f31 = some ⟨oc31, od31, .func (PySem.W.fnOf "is_clause" "is_clause" (defArgs sIcl) (defBody sIcl) (defScope sIcl) .none kV31 dc31 pm31 an31 cd31 ct31), sl31⟩) (c31 : PySem.W.codeIn K cd31 "is_clause" = true) (k31 : PySem.W.keepIn K (.ref f31) = true)
    (a32 : PySem.W.nsIn K mainGlobals "bars_who" = some (some (.ref f32))) (l32 : K.lookup f32 = some ⟨oc32, od32, .func (PySem.W.fnOf "bars_who" "bars_who" (defArgs sBarsWho) (defBody sBarsWho) (defScope sBarsWho) .none kV32 dc32 pm32 an32 cd32 ct32), sl32⟩) (c32 : PySem.W.codeIn K cd32 "bars_who" = true) (k32 : PySem.W.keepIn K (.ref f32) = true)
    {kD33 kE33 : Addr} {kd33 : Option Addr} {ks33 : Array (Option Value)} {kn33 : Nat} (a33 : PySem.W.nsIn K mainGlobals "shows_never" = some (some (.ref f33))) (l33 : K.lookup f33 = some ⟨oc33, od33, .func (PySem.W.fnOf "shows_never" "shows_never" (defArgs sShN) (defBody sShN) (defScope sShN) .none (.ref kD33) dc33 pm33 an33 cd33 ct33), sl33⟩) (c33 : PySem.W.codeIn K cd33 "shows_never" = true) (k33 : PySem.W.keepIn K (.ref f33) = true) (n33 : PySem.W.nsIn K kD33 "elders" = some (some (.ref kE33))) (e33 : K.lookup kE33 = some ⟨.type "tuple", kd33, .seq #[] kn33, ks33⟩)
    (a34 : PySem.W.nsIn K mainGlobals "shows_histories" = some (some (.ref f34))) (l34 : K.lookup f34 = some ⟨oc34, od34, .func (PySem.W.fnOf "shows_histories" "shows_histories" (defArgs sShHs) (defBody sShHs) (defScope sShHs) .none kV34 dc34 pm34 an34 cd34 ct34), sl34⟩) (c34 : PySem.W.codeIn K cd34 "shows_histories" = true) (k34 : PySem.W.keepIn K (.ref f34) = true)
    (a35 : PySem.W.nsIn K mainGlobals "shows_none" = some (some (.ref f35))) (l35 : K.lookup f35 = some ⟨oc35, od35, .func (PySem.W.fnOf "shows_none" "shows_none" (defArgs sShNo) (defBody sShNo) (defScope sShNo) .none kV35 dc35 pm35 an35 cd35 ct35), sl35⟩) (c35 : PySem.W.codeIn K cd35 "shows_none" = true) (k35 : PySem.W.keepIn K (.ref f35) = true)
    (a36 : PySem.W.nsIn K mainGlobals "shows_seen" = some (some (.ref f36))) (l36 : K.lookup f36 = some ⟨oc36, od36, .func (PySem.W.fnOf "shows_seen" "shows_seen" (defArgs sShSe) (defBody sShSe) (defScope sShSe) .none kV36 dc36 pm36 an36 cd36 ct36), sl36⟩) (c36 : PySem.W.codeIn K cd36 "shows_seen" = true) (k36 : PySem.W.keepIn K (.ref f36) = true)
    (a37 : PySem.W.nsIn K mainGlobals "_law_box" = some (some (.ref f37))) (l37 : K.lookup f37 = some ⟨oc37, od37, .func (PySem.W.fnOf "_law_box" "_law_box" (defArgs sBox) (defBody sBox) (defScope sBox) .none kV37 dc37 pm37 an37 cd37 ct37), sl37⟩) (c37 : PySem.W.codeIn K cd37 "_law_box" = true) (k37 : PySem.W.keepIn K (.ref f37) = true)
    (a38 : PySem.W.nsIn K mainGlobals "_law_take" = some (some (.ref f38))) (l38 : K.lookup f38 = some ⟨oc38, od38, .func (PySem.W.fnOf "_law_take" "_law_take" (defArgs sTake) (defBody sTake) (defScope sTake) .none kV38 dc38 pm38 an38 cd38 ct38), sl38⟩) (c38 : PySem.W.codeIn K cd38 "_law_take" = true) (k38 : PySem.W.keepIn K (.ref f38) = true)
    (a39 : PySem.W.nsIn K mainGlobals "_law_cells" = some (some (.ref f39))) (l39 : K.lookup f39 = some ⟨oc39, od39, .func (PySem.W.fnOf "_law_cells" "_law_cells" (defArgs sCells) (defBody sCells) (defScope sCells) .none kV39 dc39 pm39 an39 cd39 ct39), sl39⟩) (c39 : PySem.W.codeIn K cd39 "_law_cells" = true) (k39 : PySem.W.keepIn K (.ref f39) = true)
    (a40 : PySem.W.nsIn K mainGlobals "_law_names" = some (some (.ref f40))) (l40 : K.lookup f40 = some ⟨oc40, od40, .func (PySem.W.fnOf "_law_names" "_law_names" (defArgs sNames) (defBody sNames) (defScope sNames) .none kV40 dc40 pm40 an40 cd40 ct40), sl40⟩) (c40 : PySem.W.codeIn K cd40 "_law_names" = true) (k40 : PySem.W.keepIn K (.ref f40) = true)
    (a41 : PySem.W.nsIn K mainGlobals "_law_pals" = some (some (.ref f41))) (l41 : K.lookup f41 = some ⟨oc41, od41, .func (PySem.W.fnOf "_law_pals" "_law_pals" (defArgs sPals) (defBody sPals) (defScope sPals) .none kV41 dc41 pm41 an41 cd41 ct41), sl41⟩) (c41 : PySem.W.codeIn K cd41 "_law_pals" = true) (k41 : PySem.W.keepIn K (.ref f41) = true)
    (a42 : PySem.W.nsIn K mainGlobals "_law_are" = some (some (.ref f42))) (l42 : K.lookup f42 = some ⟨oc42, od42, .func (PySem.W.fnOf "_law_are" "_law_are" (defArgs sAre) (defBody sAre) (defScope sAre) .none kV42 dc42 pm42 an42 cd42 ct42), sl42⟩) (c42 : PySem.W.codeIn K cd42 "_law_are" = true) (k42 : PySem.W.keepIn K (.ref f42) = true)
    (a43 : PySem.W.nsIn K mainGlobals "_law_come" = some (some (.ref f43))) (l43 : K.lookup f43 = some ⟨oc43, od43, .func (PySem.W.fnOf "_law_come" "_law_come" (defArgs sCome) (defBody sCome) (defScope sCome) .none kV43 dc43 pm43 an43 cd43 ct43), sl43⟩) (c43 : PySem.W.codeIn K cd43 "_law_come" = true) (k43 : PySem.W.keepIn K (.ref f43) = true)
    (a44 : PySem.W.nsIn K mainGlobals "_law_strewn" = some (some (.ref f44))) (l44 : K.lookup f44 = some ⟨oc44, od44, .func (PySem.W.fnOf "_law_strewn" "_law_strewn" (defArgs sStrewn) (defBody sStrewn) (defScope sStrewn) .none kV44 dc44 pm44 an44 cd44 ct44), sl44⟩) (c44 : PySem.W.codeIn K cd44 "_law_strewn" = true) (k44 : PySem.W.keepIn K (.ref f44) = true)
    (a45 : PySem.W.nsIn K mainGlobals "_law_step" = some (some (.ref f45))) (l45 : K.lookup f45 = some ⟨oc45, od45, .func (PySem.W.fnOf "_law_step" "_law_step" (defArgs sStep) (defBody sStep) (defScope sStep) .none kV45 dc45 pm45 an45 cd45 ct45), sl45⟩) (c45 : PySem.W.codeIn K cd45 "_law_step" = true) (k45 : PySem.W.keepIn K (.ref f45) = true)
    (a46 : PySem.W.nsIn K mainGlobals "_law_gone_through" = some (some (.ref f46))) (l46 : K.lookup f46 = some ⟨oc46, od46, .func (PySem.W.fnOf "_law_gone_through" "_law_gone_through" (defArgs sThrough) (defBody sThrough) (defScope sThrough) .none kV46 dc46 pm46 an46 cd46 ct46), sl46⟩) (c46 : PySem.W.codeIn K cd46 "_law_gone_through" = true) (k46 : PySem.W.keepIn K (.ref f46) = true)
    (a47 : PySem.W.nsIn K mainGlobals "_law_story" = some (some (.ref f47))) (l47 : K.lookup f47 = some ⟨oc47, od47, .func (PySem.W.fnOf "_law_story" "_law_story" (defArgs sStory) (defBody sStory) (defScope sStory) .none kV47 dc47 pm47 an47 cd47 ct47), sl47⟩) (c47 : PySem.W.codeIn K cd47 "_law_story" = true) (k47 : PySem.W.keepIn K (.ref f47) = true)
    (a48 : PySem.W.nsIn K mainGlobals "_law_spoilt" = some (some (.ref f48))) (l48 : K.lookup f48 = some ⟨oc48, od48, .func (PySem.W.fnOf "_law_spoilt" "_law_spoilt" (defArgs sSpoilt) (defBody sSpoilt) (defScope sSpoilt) .none kV48 dc48 pm48 an48 cd48 ct48), sl48⟩) (c48 : PySem.W.codeIn K cd48 "_law_spoilt" = true) (k48 : PySem.W.keepIn K (.ref f48) = true)
    (a49 : PySem.W.nsIn K mainGlobals "_law_same" = some (some (.ref f49))) (l49 : K.lookup f49 = some ⟨oc49, od49, .func (PySem.W.fnOf "_law_same" "_law_same" (defArgs sSame) (defBody sSame) (defScope sSame) .none kV49 dc49 pm49 an49 cd49 ct49), sl49⟩) (c49 : PySem.W.codeIn K cd49 "_law_same" = true) (k49 : PySem.W.keepIn K (.ref f49) = true)
    (a50 : PySem.W.nsIn K mainGlobals "_law_spoil_told" = some (some (.ref f50))) (l50 : K.lookup f50 = some ⟨oc50, od50, .func (PySem.W.fnOf "_law_spoil_told" "_law_spoil_told" (defArgs sSpt) (defBody sSpt) (defScope sSpt) .none kV50 dc50 pm50 an50 cd50 ct50), sl50⟩) (c50 : PySem.W.codeIn K cd50 "_law_spoil_told" = true) (k50 : PySem.W.keepIn K (.ref f50) = true)
    (a51 : PySem.W.nsIn K mainGlobals "_law_line_right" = some (some (.ref f51))) (l51 : K.lookup f51 = some ⟨oc51, od51, .func (PySem.W.fnOf "_law_line_right" "_law_line_right" (defArgs sLnR) (defBody sLnR) (defScope sLnR) .none kV51 dc51 pm51 an51 cd51 ct51), sl51⟩) (c51 : PySem.W.codeIn K cd51 "_law_line_right" = true) (k51 : PySem.W.keepIn K (.ref f51) = true)
    (a52 : PySem.W.nsIn K mainGlobals "_law_seen_right" = some (some (.ref f52))) (l52 : K.lookup f52 = some ⟨oc52, od52, .func (PySem.W.fnOf "_law_seen_right" "_law_seen_right" (defArgs sSeR) (defBody sSeR) (defScope sSeR) .none kV52 dc52 pm52 an52 cd52 ct52), sl52⟩) (c52 : PySem.W.codeIn K cd52 "_law_seen_right" = true) (k52 : PySem.W.keepIn K (.ref f52) = true)
    (a53 : PySem.W.nsIn K mainGlobals "_law_right" = some (some (.ref f53))) (l53 : K.lookup f53 = some ⟨oc53, od53, .func (PySem.W.fnOf "_law_right" "_law_right" (defArgs sRight) (defBody sRight) (defScope sRight) .none kV53 dc53 pm53 an53 cd53 ct53), sl53⟩) (c53 : PySem.W.codeIn K cd53 "_law_right" = true) (k53 : PySem.W.keepIn K (.ref f53) = true)
    (a54 : PySem.W.nsIn K mainGlobals "law" = some (some (.ref f54))) (l54 : K.lookup f54 = some ⟨oc54, od54, .func (PySem.W.fnOf "law" "law" (defArgs sLaw) (defBody sLaw) (defScope sLaw) .none kV54 dc54 pm54 an54 cd54 ct54), sl54⟩) (c54 : PySem.W.codeIn K cd54 "law" = true) (k54 : PySem.W.keepIn K (.ref f54) = true)
    {tq1 : Tok} (q1 : PySem.W.nsIn K mainGlobals "LONGEST_NAME" = some (some (.int 8 tq1)))
    (z1 : PySem.W.nsIn K mainGlobals "len" = some none)
    (z2 : PySem.W.nsIn K mainGlobals "abs" = some none)
    (z3 : PySem.W.nsIn K mainGlobals "int" = some none)
    (z4 : PySem.W.nsIn K mainGlobals "list" = some none)
    (z5 : PySem.W.nsIn K mainGlobals "tuple" = some none)
    (z6 : PySem.W.nsIn K mainGlobals "enumerate" = some none)
    (z7 : PySem.W.nsIn K mainGlobals "range" = some none)
    (z8 : PySem.W.nsIn K mainGlobals "min" = some none)
    (z9 : PySem.W.nsIn K mainGlobals "max" = some none)
    (z10 : PySem.W.nsIn K mainGlobals "sorted" = some none)
    (z11 : PySem.W.nsIn K mainGlobals "isinstance" = some none)
    (z12 : PySem.W.nsIn K mainGlobals "zip" = some none)
    (z13 : PySem.W.nsIn K mainGlobals "all" = some none)
    (z14 : PySem.W.nsIn K mainGlobals "str" = some none)
    (z15 : PySem.W.nsIn K mainGlobals "bool" = some none)
    (z16 : PySem.W.nsIn K mainGlobals "any" = some none)
    (z17 : PySem.W.nsIn K mainGlobals "repr" = some none)
    (z18 : PySem.W.nsIn K mainGlobals "set" = some none)
    (z19 : PySem.W.nsIn K mainGlobals "sum" = some none)
    (z20 : PySem.W.nsIn K mainGlobals "reversed" = some none)
    (z21 : PySem.W.nsIn K mainGlobals "dict" = some none)
    {CB fBI NB : Addr} {nmB qB : Str} {bsB : List Value} {snB : List Str} {subB : List Value} {abB : Bool} {colB : Option Bool} {ddB : Option Addr} {m0 m1 m2 m3 m5 : Option Value} {odB anB : Option Addr} {slB : Array (Option Value)} {ocB kVB dcB pmB cdB ctB : Value}
    (xa : PySem.W.nsIn K mainGlobals "BadDeed" = some (some (.ref CB))) (xb : K.lookup CB = some (excClassObj nmB qB CB NB bsB [.type "ValueError", .type "Exception", .type "BaseException", .type "object"] true snB subB abB colB ddB m0 m1 m2 m3 m5 "ValueError.__new__"))
    (xc : PySem.W.findIn K (.ref CB) "__setattr__" = some (some (.builtin "object.__setattr__"))) (xd : PySem.W.keepIn K (.ref CB) = true) (xe : PySem.W.subIn K (.ref CB) (.type "BaseException") = some true) (xf : PySem.W.typeIn K (.ref CB) = some (.type "type")) (xg : PySem.W.isClsIn K CB = true) (xh : PySem.W.subIn K (.ref CB) (.ref CB) = some true)
    (xi : PySem.W.findIn K (.ref CB) "__init__" = some (some (.ref fBI))) (xj : PySem.W.typeIn K (.ref fBI) = some (.type "function")) (xk : K.lookup fBI = some ⟨ocB, odB, .func (PySem.W.fnOf "__init__" "BadDeed.__init__" (defArgs sBadI) (defBody sBadI) (defScope sBadI) .none kVB dcB pmB anB cdB ctB), slB⟩) (xl : PySem.W.codeIn K cdB "BadDeed.__init__" = true) (xm : PySem.W.keepIn K (.ref fBI) = true)
    (xn : PySem.W.findIn K (.ref CB) "number" = some none) (xo : PySem.W.findCls K (.type "ValueError") (.type "type") "__init__" = some (.val (.builtin "ValueError.__init__"))) (xp : PySem.W.nsIn K mainGlobals "ValueError" = some none)
    {CBadSight : Addr}
    (x0a : PySem.W.nsIn K mainGlobals "BadSight" = some (some (.ref CBadSight)))
    (x0e : PySem.W.subIn K (.ref CBadSight) (.type "BaseException") = some true)
    (x0f : PySem.W.typeIn K (.ref CBadSight) = some (.type "type"))
    (x0g : PySem.W.isClsIn K CBadSight = true)
    (x0h : PySem.W.subIn K (.ref CBadSight) (.ref CBadSight) = some true)
    (x0n : PySem.W.subIn K (.type "NoneType") (.ref CBadSight) = some false)
    {fIBadSight N0 : Addr} {nm0 q0_ : Str} {bs0 : List Value} {sn0 : List Str} {sub0 : List Value} {ab0 : Bool} {col0 : Option Bool} {dd0 : Option Addr} {m0_0 m0_1 m0_2 m0_3 m0_5 : Option Value} {od0X an0X : Option Addr} {sl0X : Array (Option Value)} {oc0X kV0X dc0X pm0X cd0X ct0X : Value}
    (x0b : K.lookup CBadSight = some (excClassObj nm0 q0_ CBadSight N0 bs0 (mroB "ValueError") true sn0 sub0 ab0 col0 dd0 m0_0 m0_1 m0_2 m0_3 m0_5 "ValueError.__new__"))
    (x0c : PySem.W.findIn K (.ref CBadSight) "__setattr__" = some (some (.builtin "object.__setattr__")))
    (x0d : PySem.W.keepIn K (.ref CBadSight) = true)
    (x0i : PySem.W.findIn K (.ref CBadSight) "__init__" = some (some (.ref fIBadSight)))
    (x0j : PySem.W.typeIn K (.ref fIBadSight) = some (.type "function"))
    (x0k : K.lookup fIBadSight = some ⟨oc0X, od0X, .func (PySem.W.fnOf "__init__" "BadSight.__init__" (defArgs sIBadSight) (defBody sIBadSight) (defScope sIBadSight) .none kV0X dc0X pm0X an0X cd0X ct0X), sl0X⟩)
    (x0l : PySem.W.codeIn K cd0X "BadSight.__init__" = true)
    (x0m : PySem.W.keepIn K (.ref fIBadSight) = true)
    (x0o : PySem.W.findCls K (.type "ValueError") (.type "type") "__init__" = some (.val (.builtin "ValueError.__init__")))
    (x0p : PySem.W.nsIn K mainGlobals "ValueError" = some none)
    (x0q : PySem.W.subIn K (.ref CBadSight) (.type "ValueError") = some true)
    (x0r : PySem.W.findIn K (.ref CBadSight) "__getattribute__" = some (some (.builtin "BaseException.__getattribute__")))
    (x0s : PySem.W.findIn K (.ref CBadSight) "__getattr__" = some none)
    (x0t : PySem.W.hasDictIn K CBadSight = true)
    (x0u : PySem.W.findIn K (.ref CBadSight) "__class__" = some (some (.builtin "object.__class__")))
    (x0v : PySem.W.specialIn K (.builtin "object.__class__") "__get__" = some (some (.builtin "getset_descriptor.__get__")))
    (x0w : PySem.W.takesIn K (.builtin "object.__class__") = some true)
    (x0y : PySem.W.mroIn K CBadSight (.type "object") = some true)
    (x0z_number : PySem.W.findIn K (.ref CBadSight) "number" = some none)
    : ∃ fd : FuncData, (∀ (s : Shared) (v : Value), BindsTo s fd ⟨[v], []⟩ [("_law_script", v)]) ∧ ∀ base : Heap, K.In base → base.Ns mainGlobals mg → FnOk l.prog w K mg base CX0 12 fa fd ["_law_script"] (spLaw K) := by
  have e := hfa.symm.trans (PySem.W.mg_of XK G a54)
  cases e
  have FIn := fun_mk (st := sIsName) l1 c1 k1
  have gIn := PySem.W.mg_of XK G a1
  have bIn := FIn.binds (ps := ["thing"]) fun _ _ _ _ _ _ us hl => match us, hl with | [_], _ => rfl
  have FIsNum := fun_mk (st := sIsNum) l2 c2 k2
  have gIsNum := PySem.W.mg_of XK G a2
  have bIsNum := FIsNum.binds (ps := ["thing"]) fun _ _ _ _ _ _ us hl => match us, hl with | [_], _ => rfl
  have FRw := fun_mk (st := sIsRow) l3 c3 k3
  have gRw := PySem.W.mg_of XK G a3
  have bRw := FRw.binds (ps := ["thing"]) fun _ _ _ _ _ _ us hl => match us, hl with | [_], _ => rfl
  have FBo := fun_mk (st := sBoth) l4 c4 k4
  have gBo := PySem.W.mg_of XK G a4
  have bBo := FBo.binds (ps := ["friends"]) fun _ _ _ _ _ _ us hl => match us, hl with | [_], _ => rfl
  have FL := fun_mk (st := sLfp) l5 c5 k5
  have gL := PySem.W.mg_of XK G a5
  have bL := FL.binds (ps := ["known", "row", "who"]) fun _ _ _ _ _ _ us hl => match us, hl with | [_, _, _], _ => rfl
  have FLa := fun_mk (st := sLooseAt) l6 c6 k6
  have gLa := PySem.W.mg_of XK G a6
  have bLa := FLa.binds (ps := ["known", "row", "place"]) fun _ _ _ _ _ _ us hl => match us, hl with | [_, _, _], _ => rfl
  have FHl := fun_mk (st := sHind) l7 c7 k7
  have gHl := PySem.W.mg_of XK G a7
  have bHl := FHl.binds (ps := ["known", "row", "but"]) fun _ _ _ _ _ _ us hl => match us, hl with | [_, _, _], _ => rfl
  have FGs := fun_mk (st := sStayed) l8 c8 k8
  have gGs := PySem.W.mg_of XK G a8
  have bGs := FGs.binds (ps := ["known", "row", "but"]) fun _ _ _ _ _ _ us hl => match us, hl with | [_, _, _], _ => rfl
  have FLin := fun_mk (st := sLineOf) l9 c9 k9
  have gLin := PySem.W.mg_of XK G a9
  have bLin := FLin.binds (ps := ["served", "row"]) fun _ _ _ _ _ _ us hl => match us, hl with | [_, _], _ => rfl
  have FFa := fun_mk (st := sFirstA) l10 c10 k10
  have gFa := PySem.W.mg_of XK G a10
  have bFa := FFa.binds (ps := ["line", "elders"]) fun _ _ _ _ _ _ us hl => match us, hl with | [_, _], _ => rfl
  have FAs := fun_mk (st := sAstray) l11 c11 k11
  have gAs := PySem.W.mg_of XK G a11
  have bAs := FAs.binds (ps := ["line", "elders"]) fun _ _ _ _ _ _ us hl => match us, hl with | [_, _], _ => rfl
  have FTr := fun_mk (st := sTraced) l12 c12 k12
  have gTr := PySem.W.mg_of XK G a12
  have bTr := FTr.binds (ps := ["friends", "served", "row", "elders", "waits"]) fun _ _ _ _ _ _ us hl => match us, hl with | [_, _, _, _, _], _ => rfl
  have FCla := fun_mk (st := sClause) l13 c13 k13
  have gCla := PySem.W.mg_of XK G a13
  have bCla := FCla.binds (ps := ["known", "line", "many", "there", "who"]) fun _ _ _ _ _ _ us hl => match us, hl with | [_, _, _, _, _], _ => rfl
  have FPap := fun_mk (st := sPaper) l14 c14 k14
  have gPap := PySem.W.mg_of XK G a14
  have bPap := FPap.binds (ps := ["friends", "served", "row", "elders", "left"]) fun _ _ _ _ _ _ us hl => match us, hl with | [_, _, _, _, _], _ => rfl
  have gHst := PySem.W.mg_of XK G a15
  have gNv := PySem.W.mg_of XK G a16
  have gTm := PySem.W.mg_of XK G a17
  have FAhe := fun_mk (st := sAhead) l18 c18 k18
  have gAhe := PySem.W.mg_of XK G a18
  have bAhe := FAhe.binds (ps := ["sights"]) fun _ _ _ _ _ _ us hl => match us, hl with | [_], _ => rfl
  have FStre := fun_mk (st := sStretch) l19 c19 k19
  have gStre := PySem.W.mg_of XK G a19
  have bStre := FStre.binds (ps := ["served", "sights"]) fun _ _ _ _ _ _ us hl => match us, hl with | [_, _], _ => rfl
  have FCse := fun_mk (st := sCanSeen) l20 c20 k20
  have gCse := PySem.W.mg_of XK G a20
  have bCse := FCse.binds (ps := ["served", "ahead", "sight"]) fun _ _ _ _ _ _ us hl => match us, hl with | [_, _, _], _ => rfl
  have FRfb := fun_mk (st := sRefBad) l21 c21 k21
  have gRfb := PySem.W.mg_of XK G a21
  have bRfb := FRfb.binds (ps := ["served", "sights"]) fun _ _ _ _ _ _ us hl => match us, hl with | [_, _], _ => rfl
  have FSea := fun_mk (st := sSeenA) l22 c22 k22
  have gSea := PySem.W.mg_of XK G a22
  have bSea := FSea.binds (ps := ["friends", "served", "sights"]) fun _ _ _ _ _ _ us hl => match us, hl with | [_, _, _], _ => rfl
  have FHp := fun_mk (st := sHostP) l23 c23 k23
  have gHp := PySem.W.mg_of XK G a23
  have bHp := FHp.binds (ps := ["known", "row", "who"]) fun _ _ _ _ _ _ us hl => match us, hl with | [_, _, _], _ => rfl
  have FCp := fun_mk (st := sComingP) l24 c24 k24
  have gCp := PySem.W.mg_of XK G a24
  have bCp := FCp.binds (ps := ["known", "row", "who"]) fun _ _ _ _ _ _ us hl => match us, hl with | [_, _, _], _ => rfl
  have FSn := fun_mk (st := sStood) l25 c25 k25
  have gSn := PySem.W.mg_of XK G a25
  have bSn := FSn.binds (ps := ["known", "row", "who"]) fun _ _ _ _ _ _ us hl => match us, hl with | [_, _, _], _ => rfl
  have FLe := fun_mk (st := sLetIn) l26 c26 k26
  have gLe := PySem.W.mg_of XK G a26
  have bLe := FLe.binds (ps := ["friends", "row", "who"]) fun _ _ _ _ _ _ us hl => match us, hl with | [_, _, _], _ => rfl
  have FRds := fun_mk (st := sReads) l27 c27 k27
  have gRds := PySem.W.mg_of XK G a27
  have bRds := FRds.binds (ps := ["thing"]) fun _ _ _ _ _ _ us hl => match us, hl with | [_], _ => rfl
  have FCbd := fun_mk (st := sCanBe) l28 c28 k28
  have gCbd := PySem.W.mg_of XK G a28
  have bCbd := FCbd.binds (ps := ["deed", "row", "been"]) fun _ _ _ _ _ _ us hl => match us, hl with | [_, _, _], _ => rfl
  have gDn := PySem.W.mg_of XK G a29
  have gShH := PySem.W.mg_of XK G a30
  have FIcl := fun_mk (st := sIcl) l31 c31 k31
  have gIcl := PySem.W.mg_of XK G a31
  have bIcl := FIcl.binds (ps := ["thing"]) fun _ _ _ _ _ _ us hl => match us, hl with | [_], _ => rfl
  have FBwho := fun_mk (st := sBarsWho) l32 c32 k32
  have gBwho := PySem.W.mg_of XK G a32
  have bBwho := FBwho.binds (ps := ["known", "line", "many", "who", "word", "places"]) fun _ _ _ _ _ _ us hl => match us, hl with | [_, _, _, _, _, _], _ => rfl
  have gShN := PySem.W.mg_of XK G a33
  have FShHs := fun_mk (st := sShHs) l34 c34 k34
  have gShHs := PySem.W.mg_of XK G a34
  have bShHs := FShHs.binds (ps := ["friends", "parts", "thing"]) fun _ _ _ _ _ _ us hl => match us, hl with | [_, _, _], _ => rfl
  have FShNo := fun_mk (st := sShNo) l35 c35 k35
  have gShNo := PySem.W.mg_of XK G a35
  have bShNo := FShNo.binds (ps := ["friends", "parts", "number", "paper"]) fun _ _ _ _ _ _ us hl => match us, hl with | [_, _, _, _], _ => rfl
  have FShSe := fun_mk (st := sShSe) l36 c36 k36
  have gShSe := PySem.W.mg_of XK G a36
  have bShSe := FShSe.binds (ps := ["friends", "served", "sights", "thing"]) fun _ _ _ _ _ _ us hl => match us, hl with | [_, _, _, _], _ => rfl
  have FX := fun_mk (st := sBox) l37 c37 k37
  have gX := PySem.W.mg_of XK G a37
  have bX := FX.binds (ps := ["_law_cells_here", "_law_k"]) fun _ _ _ _ _ _ us hl => match us, hl with | [_, _], _ => rfl
  have FT := fun_mk (st := sTake) l38 c38 k38
  have gT := PySem.W.mg_of XK G a38
  have bT := FT.binds (ps := ["_law_box_here", "_law_many"]) fun _ _ _ _ _ _ us hl => match us, hl with | [_, _], _ => rfl
  have FC := fun_mk (st := sCells) l39 c39 k39
  have gC := PySem.W.mg_of XK G a39
  have bC := FC.binds (ps := ["_law_script", "_law_utmost"]) fun _ _ _ _ _ _ us hl => match us, hl with | [_, _], _ => rfl
  have FN := fun_mk (st := sNames) l40 c40 k40
  have gN := PySem.W.mg_of XK G a40
  have bN := FN.binds (ps := ["_law_box_here", "_law_many"]) fun _ _ _ _ _ _ us hl => match us, hl with | [_, _], _ => rfl
  have FP := fun_mk (st := sPals) l41 c41 k41
  have gP := PySem.W.mg_of XK G a41
  have bP := FP.binds (ps := ["_law_box_here", "_law_pool"]) fun _ _ _ _ _ _ us hl => match us, hl with | [_, _], _ => rfl
  have FA := fun_mk (st := sAre) l42 c42 k42
  have gA := PySem.W.mg_of XK G a42
  have bA := FA.binds (ps := ["_law_pals_here", "_law_mine", "_law_its"]) fun _ _ _ _ _ _ us hl => match us, hl with | [_, _, _], _ => rfl
  have FCo := fun_mk (st := sCome) l43 c43 k43
  have gCo := PySem.W.mg_of XK G a43
  have bCo := FCo.binds (ps := ["_law_pals_here", "_law_stand", "_law_name"]) fun _ _ _ _ _ _ us hl => match us, hl with | [_, _, _], _ => rfl
  have FW := fun_mk (st := sStrewn) l44 c44 k44
  have gW := PySem.W.mg_of XK G a44
  have bW := FW.binds (ps := ["_law_box_here", "_law_some"]) fun _ _ _ _ _ _ us hl => match us, hl with | [_, _], _ => rfl
  have FSt := fun_mk (st := sStep) l45 c45 k45
  have gSt := PySem.W.mg_of XK G a45
  have bSt := FSt.binds (ps := ["_law_pals_here", "_law_stand", "_law_gone", "_law_deed", "_law_met"]) fun _ _ _ _ _ _ us hl => match us, hl with | [_, _, _, _, _], _ => rfl
  have FGt := fun_mk (st := sThrough) l46 c46 k46
  have gGt := PySem.W.mg_of XK G a46
  have bGt := FGt.binds (ps := ["_law_pals_here", "_law_olds", "_law_deeds"]) fun _ _ _ _ _ _ us hl => match us, hl with | [_, _, _], _ => rfl
  have FSy := fun_mk (st := sStory) l47 c47 k47
  have gSy := PySem.W.mg_of XK G a47
  have bSy := FSy.binds (ps := ["_law_box_here", "_law_pals_here", "_law_pool", "_law_far", "_law_most"]) fun _ _ _ _ _ _ us hl => match us, hl with | [_, _, _, _, _], _ => rfl
  have FSpo := fun_mk (st := sSpoilt) l48 c48 k48
  have gSpo := PySem.W.mg_of XK G a48
  have bSpo := FSpo.binds (ps := ["_law_box_here", "_law_olds", "_law_gone", "_law_stand"]) fun _ _ _ _ _ _ us hl => match us, hl with | [_, _, _, _], _ => rfl
  have FSa := fun_mk (st := sSame) l49 c49 k49
  have gSa := PySem.W.mg_of XK G a49
  have bSa := FSa.binds (ps := ["_law_found", "_law_due"]) fun _ _ _ _ _ _ us hl => match us, hl with | [_, _], _ => rfl
  have FSpt := fun_mk (st := sSpt) l50 c50 k50
  have gSpt := PySem.W.mg_of XK G a50
  have bSpt := FSpt.binds (ps := ["_law_told"]) fun _ _ _ _ _ _ us hl => match us, hl with | [_], _ => rfl
  have FLnR := fun_mk (st := sLnR) l51 c51 k51
  have gLnR := PySem.W.mg_of XK G a51
  have bLnR := FLnR.binds (ps := ["_law_pals_here", "_law_olds", "_law_gone", "_law_stand", "_law_mine"]) fun _ _ _ _ _ _ us hl => match us, hl with | [_, _, _, _, _], _ => rfl
  have FSeR := fun_mk (st := sSeR) l52 c52 k52
  have gSeR := PySem.W.mg_of XK G a52
  have bSeR := FSeR.binds (ps := ["_law_pals_here", "_law_gone", "_law_stand"]) fun _ _ _ _ _ _ us hl => match us, hl with | [_, _, _], _ => rfl
  have FR := fun_mk (st := sRight) l53 c53 k53
  have gR := PySem.W.mg_of XK G a53
  have bR := FR.binds (ps := ["_law_box_here"]) fun _ _ _ _ _ _ us hl => match us, hl with | [_], _ => rfl
  have FLaw := fun_mk (st := sLaw) l54 c54 k54
  have gLaw := PySem.W.mg_of XK G a54
  have bLaw := FLaw.binds (ps := ["_law_script"]) fun _ _ _ _ _ _ us hl => match us, hl with | [_], _ => rfl
  have B : Blt mg := ⟨PySem.W.mg_none_of XK G z1, PySem.W.mg_none_of XK G z2, PySem.W.mg_none_of XK G z3, PySem.W.mg_none_of XK G z4, PySem.W.mg_none_of XK G z5, PySem.W.mg_none_of XK G z6, PySem.W.mg_none_of XK G z7, PySem.W.mg_none_of XK G z8, PySem.W.mg_none_of XK G z9, PySem.W.mg_none_of XK G z10, PySem.W.mg_none_of XK G z11, PySem.W.mg_none_of XK G z12, PySem.W.mg_none_of XK G z13, PySem.W.mg_none_of XK G z14, PySem.W.mg_none_of XK G z15, PySem.W.mg_none_of XK G z16, PySem.W.mg_none_of XK G z17, PySem.W.mg_none_of XK G z18, PySem.W.mg_none_of XK G z19, PySem.W.mg_none_of XK G z20, PySem.W.mg_none_of XK G z21⟩
  have hLONGEST_NAME : ∃ u, mg "LONGEST_NAME" = some u ∧ RelV (.int 8) u := ⟨_, PySem.W.mg_of XK G q1, ⟨_, rfl⟩⟩
  refine ⟨PySem.W.fnOf "law" "law" (defArgs sLaw) (defBody sLaw) (defScope sLaw) .none kV54 dc54 pm54 an54 cd54 ct54, fun s v => .of_eq rfl, fun base _ _ => ?_⟩
  have TB : BadC K mg CB fBI := { gC := PySem.W.mg_of XK G xa, T := { cls := ⟨nmB, qB, NB, bsB, _, snB, subB, abB, colB, ddB, m0, m1, m2, m3, m5, xb, by decide +kernel⟩, sa := xc, exC := xe, tyC := xf, kC := xd }, iC := xi, tI := xj, noN := xn, te := names_self xe xg xf xh, vV := xo, nVE := PySem.W.mg_none_of XK G xp }
  have FFI := fun_mk (st := sBadI) xk xl xm
  have FBI := ok_badI (P := l.prog) (w := w) (base := base) TB FFI
  have bBI := FFI.binds (ps := nBadI) fun _ _ _ _ _ _ us hl => match us, hl with | [_, _], _ => rfl
  have TBadSight : OwnK K mg "BadSight" "ValueError" "ValueError.__new__" "ValueError.__init__" "ValueError" CBadSight fIBadSight := { g := PySem.W.mg_of XK G x0a, is := x0g, ty := x0f, ex := x0e, self := x0h, non := x0n, O := { cls := ⟨nm0, q0_, N0, bs0, sn0, sub0, ab0, col0, dd0, m0_0, m0_1, m0_2, m0_3, m0_5, x0b⟩, sa := x0c, exC := x0e, tyC := x0f, kC := x0d }, iC := x0i, tI := x0j, E := { hg := x0r, hk := x0s, hs := x0e, hd := x0t, ha := x0u, hn := x0v, ht := x0w, hm := x0y }, vB := x0o, nB := PySem.W.mg_none_of XK G x0p, sB := x0q }
  have noBadSight_number := x0z_number
  have FFBadSight := fun_mk (st := sIBadSight) x0k x0l x0m
  have FIBadSight := ok_iBadSight (P := l.prog) (w := w) (base := base) TBadSight noBadSight_number FFBadSight
  have bIBadSight := FFBadSight.binds (ps := nIBadSight) fun _ _ _ _ _ _ us hl => match us, hl with | [_, _], _ => rfl
  have cIn : Cal l.prog w K mg base 1 "is_name" _ spIsName := ⟨_, _, ok_isName B hLONGEST_NAME FIn, gIn, FIn.kp, bIn⟩
  have cIsNum : Cal l.prog w K mg base 1 "is_number" _ spIsNum := ⟨_, _, ok_isNum B FIsNum, gIsNum, FIsNum.kp, bIsNum⟩
  have cRw : Cal l.prog w K mg base 2 "is_row" _ spIsRow := ⟨_, _, ok_isRow B cIn FRw, gRw, FRw.kp, bRw⟩
  have cBo : Cal l.prog w K mg base 1 "both_ways" _ spBoth := ⟨_, _, ok_both FBo, gBo, FBo.kp, bBo⟩
  have cL : Cal l.prog w K mg base 1 "last_friend_place" _ spLfp := ⟨_, _, ok_lfp B FL, gL, FL.kp, bL⟩
  have cLa : Cal l.prog w K mg base 2 "loose_at" _ spLooseAt := ⟨_, _, ok_looseAt B cL FLa, gLa, FLa.kp, bLa⟩
  have cHl : Cal l.prog w K mg base 3 "hindmost_loose" _ (spHind K) := ⟨_, _, ok_hind B cLa FHl, gHl, FHl.kp, bHl⟩
  have cGs : Cal l.prog w K mg base 4 "gone_and_stayed" _ (spStayed K) := ⟨_, _, ok_stayed B cHl FGs, gGs, FGs.kp, bGs⟩
  have cLin : Cal l.prog w K mg base 1 "line_of" _ spLineOf := ⟨_, _, ok_lineOf B FLin, gLin, FLin.kp, bLin⟩
  have cFa : Cal l.prog w K mg base 1 "first_astray" _ (spAstray K) := ⟨_, _, ok_firstA B FFa, gFa, FFa.kp, bFa⟩
  have cAs : Cal l.prog w K mg base 2 "refuse_astray" _ (spAstray K) := ⟨_, _, ok_astray cFa FAs, gAs, FAs.kp, bAs⟩
  have cTr : Cal l.prog w K mg base 5 "traced_back" _ (spTracedF K) := ⟨_, _, ok_tracedF B cBo cGs FTr, gTr, FTr.kp, bTr⟩
  have cCla : Cal l.prog w K mg base 2 "clause" _ (spClause K) := ⟨_, _, ok_clause B cL FCla, gCla, FCla.kp, bCla⟩
  have cPap : Cal l.prog w K mg base 3 "paper_of" _ (spPaper K) := ⟨_, _, ok_paper B cBo cCla cLin FPap, gPap, FPap.kp, bPap⟩
  have cHst := cal_histN (P := l.prog) (w := w) (mg := mg) (base := base) l15 c15 k15 n15 e15 gHst B cLin cAs cTr cPap
  have cNv := cal_never (P := l.prog) (w := w) (mg := mg) (base := base) l16 c16 k16 n16 e16 gNv cLin cAs (Cal.imp cTr traced_weak)
  have cTm := cal_times (P := l.prog) (w := w) (mg := mg) (base := base) l17 c17 k17 n17 e17 gTm B cLin cAs (Cal.imp cTr traced_weak)
  have cHp : Cal l.prog w K mg base 2 "host_place" _ spHostP := ⟨_, _, ok_hostP cL FHp, gHp, FHp.kp, bHp⟩
  have cCp : Cal l.prog w K mg base 3 "coming_place" _ spComingP := ⟨_, _, ok_comingP B cHp FCp, gCp, FCp.kp, bCp⟩
  have cSn : Cal l.prog w K mg base 4 "stood_in" _ spStood := ⟨_, _, ok_stood B cCp FSn, gSn, FSn.kp, bSn⟩
  have cLe : Cal l.prog w K mg base 5 "let_in" _ spLetIn := ⟨_, _, ok_letIn cBo cSn FLe, gLe, FLe.kp, bLe⟩
  have cRds : Cal l.prog w K mg base 2 "reads_as_deed" _ spReads := ⟨_, _, ok_rds B cIn FRds, gRds, FRds.kp, bRds⟩
  have cCbd : Cal l.prog w K mg base 1 "can_be_done" _ spCanBe := ⟨_, _, ok_cbd B FCbd, gCbd, FCbd.kp, bCbd⟩
  have cDn := cal_done (P := l.prog) (w := w) (mg := mg) (base := base) l29 c29 k29 n29 e29 gDn B cRds cCbd cLe
  have cX : Cal l.prog w K mg base 1 "_law_box" _ spBox := ⟨_, _, ok_box B FX, gX, FX.kp, bX⟩
  have cT : Cal l.prog w K mg base 1 "_law_take" _ spTake := ⟨_, _, ok_take FT, gT, FT.kp, bT⟩
  have cC : Cal l.prog w K mg base 1 "_law_cells" _ (spCells K) := ⟨_, _, ok_cells B FC, gC, FC.kp, bC⟩
  have cN : Cal l.prog w K mg base 2 "_law_names" _ spNames := ⟨_, _, ok_names B cT FN, gN, FN.kp, bN⟩
  have cP : Cal l.prog w K mg base 2 "_law_pals" _ spPals := ⟨_, _, ok_pals B cT FP, gP, FP.kp, bP⟩
  have cA : Cal l.prog w K mg base 1 "_law_are" _ spAre := ⟨_, _, ok_are B FA, gA, FA.kp, bA⟩
  have cCo : Cal l.prog w K mg base 2 "_law_come" _ spCome := ⟨_, _, ok_come B cA FCo, gCo, FCo.kp, bCo⟩
  have cW : Cal l.prog w K mg base 2 "_law_strewn" _ spStrewn := ⟨_, _, ok_strewn B cT FW, gW, FW.kp, bW⟩
  have cSt : Cal l.prog w K mg base 3 "_law_step" _ spStep := ⟨_, _, ok_step B cCo FSt, gSt, FSt.kp, bSt⟩
  have cGt : Cal l.prog w K mg base 4 "_law_gone_through" _ spThrough := ⟨_, _, ok_through B cSt FGt, gGt, FGt.kp, bGt⟩
  have cSy : Cal l.prog w K mg base 5 "_law_story" _ spStory := ⟨_, _, ok_story B cT cW cGt FSy, gSy, FSy.kp, bSy⟩
  have cSpo : Cal l.prog w K mg base 2 "_law_spoilt" _ spSpoilt := ⟨_, _, ok_spoilt B cT FSpo, gSpo, FSpo.kp, bSpo⟩
  have cSa : Cal l.prog w K mg base 2 "_law_same" _ (spSame 2) := ⟨_, _, ok_same B FSa gSa bSa 2, gSa, FSa.kp, bSa⟩
  have cSpt : Cal l.prog w K mg base 1 "_law_spoil_told" _ spSpt := ⟨_, _, ok_spt B FSpt, gSpt, FSpt.kp, bSpt⟩
  have cTr0 : Cal l.prog w K mg base 5 "traced_back" ["friends", "served", "row", "elders", "waits"] (spTraced K) := Cal.imp cTr traced_weak
  have cFaX : Cal l.prog w K mg base 1 "first_astray" _ spFirstAX2 := ⟨_, _, ok_firstAX B FFa, gFa, FFa.kp, bFa⟩
  have cAheX : Cal l.prog w K mg base 1 "sights_ahead" _ spAheadX := ⟨_, _, ok_ahead B FAhe, gAhe, FAhe.kp, bAhe⟩
  have cAheO : Cal l.prog w K mg base 1 "sights_ahead" _ spAhead := ⟨_, _, ok_aheadO B FAhe, gAhe, FAhe.kp, bAhe⟩
  have cCseX : Cal l.prog w K mg base 2 "can_be_seen" _ spCanSeenX := ⟨_, _, ok_canSeen B cFaX cLin FCse, gCse, FCse.kp, bCse⟩
  have cRfbX : CalX l.prog w K mg base 3 "refuse_bad_sights" _ (spRefBadX CBadSight) := ⟨_, _, ok_refBad B TBadSight FIBadSight bIBadSight cCseX cAheX FRfb, gRfb, FRfb.kp, bRfb⟩
  have cStreX : Cal l.prog w K mg base 2 "stretches" _ spStretchX := ⟨_, _, ok_stretch B cAheX FStre, gStre, FStre.kp, bStre⟩
  have cStreO : Cal l.prog w K mg base 2 "stretches" _ spStretch := ⟨_, _, ok_stretchO B cAheO FStre, gStre, FStre.kp, bStre⟩
  have cSeaX : Cal l.prog w K mg base 7 "seen_after" ["friends", "served", "sights"] (no_E (spSeenN CBadSight)) := ⟨_, _, FnOk.to0 (ok_seenA B cHst cRfbX cStreX FSea), gSea, FSea.kp, bSea⟩
  have cSeaN : CalN l.prog w K mg base 7 "seen_after" ["friends", "served", "sights"] ["sights", "served", "friends"] [2, 1, 0] (no_E (spSeenN CBadSight)) := caln_mk FSea gSea (FnOk.to0 (ok_seenA B cHst cRfbX cStreX FSea)) _ _ (fun _ _ _ _ _ _ ws h => match ws, h with | [_, _, _], _ => rfl)
  have cRdX : Cal l.prog w K mg base 2 "reads_as_deed" _ spRdsX := ⟨_, _, ok_rdsX B cIn FRds, gRds, FRds.kp, bRds⟩
  have cDnX := cal_doneX (P := l.prog) (w := w) (mg := mg) (base := base) l29 c29 k29 gDn B TB FBI bBI cRdX cCbd
  have cShHB := cal_shHB (P := l.prog) (w := w) (mg := mg) (base := base) l30 c30 k30 n30 e30 gShH B TB cDnX cDn
  have cShHU := CalK.imp cShHB (sq := spShHU) (fun _ _ _ _ h => shHU h)
  have cShH0 := CalK.imp cShHB (sq := spShowsH) (fun _ _ _ _ h => .inl h)
  have FShHk := fun_mk (st := sShowsH) l30 c30 k30
  have cShHN : CalN l.prog w K mg base 7 "shows_history" ["friends", "served", "row", "thing", "elders"] ["thing", "row", "elders", "served", "friends"] [4, 3, 1, 0, 2] spShHU := CalN.imp (caln_mk FShHk gShH ((ok_shH B cDn FShHk).or (ok_shHX B TB cDnX FShHk)) _ _ (fun _ _ _ _ _ _ ws h => match ws, h with | [_, _, _, _, _], _ => rfl)) (fun _ _ _ _ h => shHU h)
  have cClT : Cal l.prog w K mg base 3 "is_clause" _ spClT := ⟨_, _, ok_clT B cIn cRw FIcl, gIcl, FIcl.kp, bIcl⟩
  have cClD : Cal l.prog w K mg base 3 "is_clause" _ spClD := ⟨_, _, ok_clD B FIcl, gIcl, FIcl.kp, bIcl⟩
  have cBwh : Cal l.prog w K mg base 2 "bars_who" _ spBwho := ⟨_, _, ok_bwho B cL FBwho, gBwho, FBwho.kp, bBwho⟩
  have cNvB := cal_nevB (P := l.prog) (w := w) (mg := mg) (base := base) l33 c33 k33 n33 e33 gShN B cBwh cBo cClT cClD
  have cNvU := CalK.imp cNvB (sq := spShNU) (fun _ _ _ _ h => shNU h)
  have cNvT := CalK.imp cNvB (sq := spNevT) (fun _ _ _ _ h => .inr h)
  have FShNk := fun_mk (st := sShN) l33 c33 k33
  have cShNN : CalN l.prog w K mg base 4 "shows_never" ["friends", "served", "row", "thing", "elders"] ["thing", "row", "elders", "served", "friends"] [4, 3, 1, 0, 2] spShNU := CalN.imp (caln_mk FShNk gShN ((ok_nevD B cClD FShNk).or (ok_nevT B cBwh cBo cClT FShNk)) _ _ (fun _ _ _ _ _ _ ws h => match ws, h with | [_, _, _, _, _], _ => rfl)) (fun _ _ _ _ h => shNU h)
  have FHstk := fun_mk (st := sHist) l15 c15 k15
  have cHstN : CalN l.prog w K mg base 6 "history_of" ["friends", "served", "row", "elders"] ["elders", "row", "served", "friends"] [3, 2, 1, 0] (spHistN K) := caln_mk FHstk gHst (ok_histN B cLin cPap cAs cTr FHstk) _ _ (fun _ _ _ _ _ _ ws h => match ws, h with | [_, _, _, _], _ => rfl)
  have FNvk := fun_mk (st := sNever) l16 c16 k16
  have cNvN : CalN l.prog w K mg base 6 "never_in" ["friends", "served", "row", "elders"] ["row", "friends", "elders", "served"] [1, 3, 0, 2] (spNever K) := caln_mk FNvk gNv (ok_never cLin cAs cTr0 FNvk) _ _ (fun _ _ _ _ _ _ ws h => match ws, h with | [_, _, _, _], _ => rfl)
  have FTmk := fun_mk (st := sTimes) l17 c17 k17
  have cTmN : CalN l.prog w K mg base 6 "times_of" ["friends", "served", "row", "who", "elders"] ["who", "row", "elders", "served", "friends"] [4, 3, 1, 0, 2] (spTimes K) := caln_mk FTmk gTm (ok_times B cLin cAs cTr0 FTmk) _ _ (fun _ _ _ _ _ _ ws h => match ws, h with | [_, _, _, _, _], _ => rfl)
  have cShHsX : Cal l.prog w K mg base 8 "shows_histories" _ spShHs := ⟨_, _, ok_shHs B cShH0 FShHs, gShHs, FShHs.kp, bShHs⟩
  have cShNoX : Cal l.prog w K mg base 5 "shows_none" _ spShNo := ⟨_, _, ok_shNo B cIsNum cNvT FShNo, gShNo, FShNo.kp, bShNo⟩
  have cShSeX : Cal l.prog w K mg base 9 "shows_seen" ["friends", "served", "sights", "thing"] spShSe := ⟨_, _, ok_shSe B cShHsX cShNoX cStreO FShSe, gShSe, FShSe.kp, bShSe⟩
  have cShSeN : CalN l.prog w K mg base 9 "shows_seen" ["friends", "served", "sights", "thing"] ["thing", "sights", "served", "friends"] [3, 2, 1, 0] spShSe := caln_mk FShSe gShSe (ok_shSe B cShHsX cShNoX cStreO FShSe) _ _ (fun _ _ _ _ _ _ ws h => match ws, h with | [_, _, _, _], _ => rfl)
  have cLnR8 : Cal l.prog w K mg base 8 "_law_line_right" ["_law_pals_here", "_law_olds", "_law_gone", "_law_stand", "_law_mine"] spLnR38 := ⟨_, _, ok_lnR B cSa cSpt cHst cHstN cNv cNvN cShHU cShHN cNvU cShNN cTm cTmN FLnR, gLnR, FLnR.kp, bLnR⟩
  have cSeR8 : Cal l.prog w K mg base 10 "_law_seen_right" ["_law_pals_here", "_law_gone", "_law_stand"] spSeR38 := ⟨_, _, ok_seR B cSa cSpt cSeaX cSeaN cShSeX cShSeN FSeR, gSeR, FSeR.kp, bSeR⟩
  have cR : Cal l.prog w K mg base 11 "_law_right" _ spRight := ⟨_, _, ok_right B cLnR8 cN cP cSeR8 cSpo cSy cT FR, gR, FR.kp, bR⟩
  exact ok_law B cC cX cR FLaw
end Lk
open PySem PySem.W PyProof.Rows
set_option maxRecDepth 100000 in
set_option maxHeartbeats 0 in
theorem PySem.Challenge.cw_letinrow_k38_lines_asked_by_names_holds : PySem.Challenge.rw_letinrow_k38_lines_asked_by_names.Holds := by
  w_on; o_law; k_head; (case hw => w_witness2)
  k_fill
  refine Lk.walk_law (l := PySem.Challenge.rw_letinrow_k38_lines_asked_by_names) (n := 63) (k := 12) (x := "_law_script") (sp := fun w => Lk.spLaw _) rfl (by decide) rfl ⟨rfl, by decide, by decide⟩ (fun w h Y => PySem.W.kIn_of Y) ?F (fun _ _ a ns hl hS => ⟨a, ns, rfl, hS, hl, fun _ => rfl⟩)
  case F =>
    intro w mg fa h KX G hmg
    refine' Lk.all_mk KX G hmg ?a1 ?l1 ?c1 ?k1 ?a2 ?l2 ?c2 ?k2 ?a3 ?l3 ?c3 ?k3 ?a4 ?l4 ?c4 ?k4 ?a5 ?l5 ?c5 ?k5 ?a6 ?l6 ?c6 ?k6 ?a7 ?l7 ?c7 ?k7 ?a8 ?l8 ?c8 ?k8 ?a9 ?l9 ?c9 ?k9 ?a10 ?l10 ?c10 ?k10 ?a11 ?l11 ?c11 ?k11 ?a12 ?l12 ?c12 ?k12 ?a13 ?l13 ?c13 ?k13 ?a14 ?l14 ?c14 ?k14 ?a15 ?l15 ?c15 ?k15 ?n15 ?e15 ?a16 ?l16 ?c16 ?k16 ?n16 ?e16 ?a17 ?l17 ?c17 ?k17 ?n17 ?e17 ?a18 ?l18 ?c18 ?k18 ?a19 ?l19 ?c19 ?k19 ?a20 ?l20 ?c20 ?k20 ?a21 ?l21 ?c21 ?k21 ?a22 ?l22 ?c22 ?k22 ?a23 ?l23 ?c23 ?k23 ?a24 ?l24 ?c24 ?k24 ?a25 ?l25 ?c25 ?k25 ?a26 ?l26 ?c26 ?k26 ?a27 ?l27 ?c27 ?k27 ?a28 ?l28 ?c28 ?k28 ?a29 ?l29 ?c29 ?k29 ?n29 ?e29 ?a30 ?l30 ?c30 ?k30 ?n30 ?e30 ?a31 ?l31 ?c31 ?k31 ?a32 ?l32 ?c32 ?k32 ?a33 ?l33 ?c33 ?k33 ?n33 ?e33 ?a34 ?l34 ?c34 ?k34 ?a35 ?l35 ?c35 ?k35 ?a36 ?l36 ?c36 ?k36 ?a37 ?l37 ?c37 ?k37 ?a38 ?l38 ?c38 ?k38 ?a39 ?l39 ?c39 ?k39 ?a40 ?l40 ?c40 ?k40 ?a41 ?l41 ?c41 ?k41 ?a42 ?l42 ?c42 ?k42 ?a43 ?l43 ?c43 ?k43 ?a44 ?l44 ?c44 ?k44 ?a45 ?l45 ?c45 ?k45 ?a46 ?l46 ?c46 ?k46 ?a47 ?l47 ?c47 ?k47 ?a48 ?l48 ?c48 ?k48 ?a49 ?l49 ?c49 ?k49 ?a50 ?l50 ?c50 ?k50 ?a51 ?l51 ?c51 ?k51 ?a52 ?l52 ?c52 ?k52 ?a53 ?l53 ?c53 ?k53 ?a54 ?l54 ?c54 ?k54 ?q1 ?z1 ?z2 ?z3 ?z4 ?z5 ?z6 ?z7 ?z8 ?z9 ?z10 ?z11 ?z12 ?z13 ?z14 ?z15 ?z16 ?z17 ?z18 ?z19 ?z20 ?z21 ?xa ?xb ?xc ?xd ?xe ?xf ?xg ?xh ?xi ?xj ?xk ?xl ?xm ?xn ?xo ?xp ?x0a ?x0e ?x0f ?x0g ?x0h ?x0n ?x0b ?x0c ?x0d ?x0i ?x0j ?x0k ?x0l ?x0m ?x0o ?x0p ?x0q ?x0r ?x0s ?x0t ?x0u ?x0v ?x0w ?x0y ?x0z_number
    (case a1 => k_is); (case l1 => k_is); (case c1 => k_is); (case k1 => k_is)
    (case a2 => k_is); (case l2 => k_is); (case c2 => k_is); (case k2 => k_is)
    (case a3 => k_is); (case l3 => k_is); (case c3 => k_is); (case k3 => k_is)
    (case a4 => k_is); (case l4 => k_is); (case c4 => k_is); (case k4 => k_is)
    (case a5 => k_is); (case l5 => k_is); (case c5 => k_is); (case k5 => k_is)
    (case a6 => k_is); (case l6 => k_is); (case c6 => k_is); (case k6 => k_is)
    (case a7 => k_is); (case l7 => k_is); (case c7 => k_is); (case k7 => k_is)
    (case a8 => k_is); (case l8 => k_is); (case c8 => k_is); (case k8 => k_is)
    (case a9 => k_is); (case l9 => k_is); (case c9 => k_is); (case k9 => k_is)
    (case a10 => k_is); (case l10 => k_is); (case c10 => k_is); (case k10 => k_is)
    (case a11 => k_is); (case l11 => k_is); (case c11 => k_is); (case k11 => k_is)
    (case a12 => k_is); (case l12 => k_is); (case c12 => k_is); (case k12 => k_is)
    (case a13 => k_is); (case l13 => k_is); (case c13 => k_is); (case k13 => k_is)
    (case a14 => k_is); (case l14 => k_is); (case c14 => k_is); (case k14 => k_is)
    (case a15 => k_is); (case l15 => k_is); (case c15 => k_is); (case k15 => k_is)
    (case n15 => k_is); (case e15 => k_is); (case a16 => k_is); (case l16 => k_is)
    (case c16 => k_is); (case k16 => k_is); (case n16 => k_is); (case e16 => k_is)
    (case a17 => k_is); (case l17 => k_is); (case c17 => k_is); (case k17 => k_is)
    (case n17 => k_is); (case e17 => k_is); (case a18 => k_is); (case l18 => k_is)
    (case c18 => k_is); (case k18 => k_is); (case a19 => k_is); (case l19 => k_is)
    (case c19 => k_is); (case k19 => k_is); (case a20 => k_is); (case l20 => k_is)
    (case c20 => k_is); (case k20 => k_is); (case a21 => k_is); (case l21 => k_is)
    (case c21 => k_is); (case k21 => k_is); (case a22 => k_is); (case l22 => k_is)
    (case c22 => k_is); (case k22 => k_is); (case a23 => k_is); (case l23 => k_is)
    (case c23 => k_is); (case k23 => k_is); (case a24 => k_is); (case l24 => k_is)
    (case c24 => k_is); (case k24 => k_is); (case a25 => k_is); (case l25 => k_is)
    (case c25 => k_is); (case k25 => k_is); (case a26 => k_is); (case l26 => k_is)
    (case c26 => k_is); (case k26 => k_is); (case a27 => k_is); (case l27 => k_is)
    (case c27 => k_is); (case k27 => k_is); (case a28 => k_is); (case l28 => k_is)
    (case c28 => k_is); (case k28 => k_is); (case a29 => k_is); (case l29 => k_is)
    (case c29 => k_is); (case k29 => k_is); (case n29 => k_is); (case e29 => k_is)
    (case a30 => k_is); (case l30 => k_is); (case c30 => k_is); (case k30 => k_is)
    (case n30 => k_is); (case e30 => k_is); (case a31 => k_is); (case l31 => k_is)
    (case c31 => k_is); (case k31 => k_is); (case a32 => k_is); (case l32 => k_is)
    (case c32 => k_is); (case k32 => k_is); (case a33 => k_is); (case l33 => k_is)
    (case c33 => k_is); (case k33 => k_is); (case n33 => k_is); (case e33 => k_is)
    (case a34 => k_is); (case l34 => k_is); (case c34 => k_is); (case k34 => k_is)
    (case a35 => k_is); (case l35 => k_is); (case c35 => k_is); (case k35 => k_is)
    (case a36 => k_is); (case l36 => k_is); (case c36 => k_is); (case k36 => k_is)
    (case a37 => k_is); (case l37 => k_is); (case c37 => k_is); (case k37 => k_is)
    (case a38 => k_is); (case l38 => k_is); (case c38 => k_is); (case k38 => k_is)
    (case a39 => k_is); (case l39 => k_is); (case c39 => k_is); (case k39 => k_is)
    (case a40 => k_is); (case l40 => k_is); (case c40 => k_is); (case k40 => k_is)
    (case a41 => k_is); (case l41 => k_is); (case c41 => k_is); (case k41 => k_is)
    (case a42 => k_is); (case l42 => k_is); (case c42 => k_is); (case k42 => k_is)
    (case a43 => k_is); (case l43 => k_is); (case c43 => k_is); (case k43 => k_is)
    (case a44 => k_is); (case l44 => k_is); (case c44 => k_is); (case k44 => k_is)
    (case a45 => k_is); (case l45 => k_is); (case c45 => k_is); (case k45 => k_is)
    (case a46 => k_is); (case l46 => k_is); (case c46 => k_is); (case k46 => k_is)
    (case a47 => k_is); (case l47 => k_is); (case c47 => k_is); (case k47 => k_is)
    (case a48 => k_is); (case l48 => k_is); (case c48 => k_is); (case k48 => k_is)
    (case a49 => k_is); (case l49 => k_is); (case c49 => k_is); (case k49 => k_is)
    (case a50 => k_is); (case l50 => k_is); (case c50 => k_is); (case k50 => k_is)
    (case a51 => k_is); (case l51 => k_is); (case c51 => k_is); (case k51 => k_is)
    (case a52 => k_is); (case l52 => k_is); (case c52 => k_is); (case k52 => k_is)
    (case a53 => k_is); (case l53 => k_is); (case c53 => k_is); (case k53 => k_is)
    (case a54 => k_is); (case l54 => k_is); (case c54 => k_is); (case k54 => k_is)
    (case q1 => k_is); (case z1 => k_is); (case z2 => k_is); (case z3 => k_is)
    (case z4 => k_is); (case z5 => k_is); (case z6 => k_is); (case z7 => k_is)
    (case z8 => k_is); (case z9 => k_is); (case z10 => k_is); (case z11 => k_is)
    (case z12 => k_is); (case z13 => k_is); (case z14 => k_is); (case z15 => k_is)
    (case z16 => k_is); (case z17 => k_is); (case z18 => k_is); (case z19 => k_is)
    (case z20 => k_is); (case z21 => k_is); (case xa => first | k_is | rfl | decide +kernel); (case xb => first | k_is | rfl | decide +kernel)
    (case xc => first | k_is | rfl | decide +kernel); (case xd => first | k_is | rfl | decide +kernel); (case xe => first | k_is | rfl | decide +kernel); (case xf => first | k_is | rfl | decide +kernel)
    (case xg => first | k_is | rfl | decide +kernel); (case xh => first | k_is | rfl | decide +kernel); (case xi => first | k_is | rfl | decide +kernel); (case xj => first | k_is | rfl | decide +kernel)
    (case xk => first | k_is | rfl | decide +kernel); (case xl => first | k_is | rfl | decide +kernel); (case xm => first | k_is | rfl | decide +kernel); (case xn => first | k_is | rfl | decide +kernel)
    (case xo => first | k_is | rfl | decide +kernel); (case xp => first | k_is | rfl | decide +kernel); (case x0a => first | k_is | rfl | decide +kernel); (case x0e => first | k_is | rfl | decide +kernel)
    (case x0f => first | k_is | rfl | decide +kernel); (case x0g => first | k_is | rfl | decide +kernel); (case x0h => first | k_is | rfl | decide +kernel); (case x0n => first | k_is | rfl | decide +kernel)
    (case x0b => first | k_is | rfl | decide +kernel); (case x0c => first | k_is | rfl | decide +kernel); (case x0d => first | k_is | rfl | decide +kernel); (case x0i => first | k_is | rfl | decide +kernel)
    (case x0j => first | k_is | rfl | decide +kernel); (case x0k => first | k_is | rfl | decide +kernel); (case x0l => first | k_is | rfl | decide +kernel); (case x0m => first | k_is | rfl | decide +kernel)
    (case x0o => first | k_is | rfl | decide +kernel); (case x0p => first | k_is | rfl | decide +kernel); (case x0q => first | k_is | rfl | decide +kernel); (case x0r => first | k_is | rfl | decide +kernel)
    (case x0s => first | k_is | rfl | decide +kernel); (case x0t => first | k_is | rfl | decide +kernel); (case x0u => first | k_is | rfl | decide +kernel); (case x0v => first | k_is | rfl | decide +kernel)
    (case x0w => first | k_is | rfl | decide +kernel); (case x0y => first | k_is | rfl | decide +kernel); (case x0z_number => first | k_is | rfl | decide +kernel)
