import PyProof.Rows.All
import Wide.All
import OpenK.AllK
import Wide.FinOn
import HandS.ForMost
import HandS.Walk
import HandS.Deep
import HandS.Zip
import HandS.TupAny
import HandS.IsInst
import HandS.Strs
import HandS.More
import HandS.Flow
import HandS.Style
import HandS.NoneIn
import KE.SortData
import KE.GoesEnum
import KE.GoesMore
import HandS.Defaults
import HandS.WordsExc
import HandS.DictComp
import HandS.Iter
import HandS.MakeKwOnly
import HandS.TupMul
import PyProof.ReprLen
import HandS.ExcInit
import HandS.ExcOwn
import HandS.TryOnly
import HandS.FStr
import HandS.ExcIs
import HandS.ExcField
import KE.KExcInit
import KE.KTryMore
import HandS.Lambda
import HandS.EndTab
import HandS.Text
import PyProof.StrLawsChain
import PyProof.StrLawsTight
import PyProof.Rows.StrItems
import KE.LtSeq
import HandS.TupSets
import KE.KDictZip
import PyProof.EnumMake
import HandS.Steps
import HandS.StrMore
import PySem.Challenge.RW_letinrow_k05_comings_and_servings
set_option Elab.async false
set_option linter.all false
set_option maxRecDepth 100000
set_option maxHeartbeats 2000000
namespace Lk
open PySem PySem.Spec PyProof.Rows L2

/-! ### either of two rules -/
section
variable {X : Cx}
theorem pi_or2 {tg e : Expr} {t u : TI} (a : PI X tg e t) (b : PI X tg e u) : PI X tg e (fun σ H R => t σ H R ∨ u σ H R) :=
  ⟨fun pins s σ H R I h => h.elim (a.run pins s σ H R I) (b.run pins s σ H R I)⟩
theorem pg_or2 {tg : Expr} {t u : TG} (a : PG X tg t) (b : PG X tg u) : PG X tg (fun v σ H Q => t v σ H Q ∨ u v σ H Q) :=
  ⟨fun pins s σ H v x Q I r h => h.elim (a.run pins s σ H v x Q I r) (b.run pins s σ H v x Q I r)⟩
theorem sl_or2 {r r' : V → Option Int → Option Int → Hp → VK → Prop} (a : SlR X r) (b : SlR X r') : SlR X (fun x l h H Q => r x l h H Q ∨ r' x l h H Q) :=
  fun pins s σ H x v vl vu lo hi sl Q I rx hs pl pu h => h.elim (a pins s σ H x v vl vu lo hi sl Q I rx hs pl pu) (b pins s σ H x v vl vu lo hi sl Q I rx hs pl pu)
end

/-! ### what is known in between -/
section
variable {X : Cx}
def tMid (t : TE) : TE := fun σ H Q => ∃ M : V → Hp → Prop, t σ H M ∧ ∀ v H', M v H' → Q v H'
theorem pe_mid {e : Expr} {t : TE} (h : PE X e t) : PE X e (tMid t) :=
  ⟨fun pins s σ H Q I ⟨M, h1, h2⟩ => thn (h.run pins s σ H M I h1) fun u s1 ⟨v, H1, I1, r, q⟩ => ⟨v, H1, I1, r, h2 v H1 q⟩⟩
def tMidT (t : TT) : TT := fun σ H Q => ∃ M : Bool → Hp → Prop, t σ H M ∧ ∀ v H', M v H' → Q v H'
theorem pt_mid {e : Expr} {t : TT} (h : PT X e t) : PT X e (tMidT t) :=
  ⟨fun pins s σ H Q I ⟨M, h1, h2⟩ => thn (h.run pins s σ H M I h1) fun u s1 ⟨H1, I1, q⟩ => ⟨H1, I1, h2 u H1 q⟩⟩
def tMidS (t : TS) : TS := fun D σ H => ∃ M : L2.St → Hp → Prop, t { D with nx := M } σ H ∧ ∀ σ' H', M σ' H' → D.nx σ' H'
theorem ps_mid {st : Stmt} {t : TS} (h : PS X st t) : PS X st (tMidS t) := by
  refine ⟨fun pins s σ H D I ⟨M, h1, h2⟩ => thn (h.run pins s σ H { D with nx := M } I h1) fun fl s1 q => ?_⟩
  cases fl with
  | next =>
    obtain ⟨σ', H', I', q'⟩ := q
    exact ⟨σ', H', I', h2 σ' H' q'⟩
  | brk => exact q
  | cont => exact q
  | ret u => exact q
end

/-! ### in, over a tuple of data -/
section
variable {X : Cx}
def rInT (K : PySem.W.Frag) : R2 := fun x y H Q => ∃ d ds, Dp K H x d ∧ Dp K H y (.tuple ds) ∧ SeqAt.shaped d = true ∧ SeqAt.shaped (.tuple ds) = true ∧ Q (.bl (ds.any fun z => PyData.eqv z d)) H
theorem op_inT (hu : X.A.units + 65 < cLine) : OpR X (compareOp .In) (rInT X.K) := by
  intro pins s σ H x y v u Q I rx ry h
  obtain ⟨d, ds, hd, he, sd, se, q⟩ := h
  obtain ⟨as, r1⟩ := Dp.reads I d x v hd rx
  obtain ⟨bs, r2⟩ := Dp.reads I (.tuple ds) y u he ry
  exact SeqAt.in_tuple_reads r2 r1 (SeqAt.canLay_of_shaped se) (SeqAt.canLay_of_shaped sd) (room_in_shaped sd hu) ⟨.bl _, H, I, rfl, q⟩
end

/-! ### room, where nobody writes a text of a thing around us -/
structure Room (k : Nat) (A : Around) : Prop where
  rm : L2.Room k A
  gd : True
theorem Room.mono {j k : Nat} {A : Around} (z : Room k A) (h : j ≤ k) : Room j A := ⟨z.rm.mono h, z.gd⟩
theorem Room.units {k : Nat} {A : Around} (z : Room k A) : A.units + 64 < cLine := z.rm.units
theorem Room.un {k : Nat} {A : Around} (z : Room k A) : A.units + 16 * k + 200 < cLine := z.rm.un
theorem Room.hd {k : Nat} {A : Around} (z : Room k A) : A.handled = none := z.rm.hd
theorem hu_of {A : Around} {k : Nat} (z : Room k A) : A.units + 1 < cLine := L2.hu_of z.rm
/-- a def's promise, asked for only there -/
structure FnOk (P : Program) (w : World) (K : PySem.W.Frag) (mg : Str → Option Value) (base : Heap) (CX : CXT) (k : Nat) (f : Addr) (fd : FuncData) (ps : List Str) (sp : Sp) : Prop where
  len : ∀ vs H Q E, sp vs H Q E → vs.length = ps.length
  run : ∀ (A : Around) (out : List Env) (s : Shared) (H : Hp) (ar : Args) (us : List Value) (vs : List V) (Q : VK) (E : XK), Room k A → Env0 P w K mg base A out s H → BindsTo s fd ar (ps.zip us) → Vals vs us → sp vs H Q E →
    codeAny (model P w) A (.call (.ref f) ar) (CR CX out P w H s Q E) s
section
variable {P : Program} {w : World} {K : PySem.W.Frag} {mg : Str → Option Value} {base : Heap} {CX : CXT} {k : Nat} {f : Addr} {fd : FuncData} {N ps : List Str} {sp : Sp}
theorem FnOk.mono {j : Nat} (F : FnOk P w K mg base CX j f fd ps sp) (h : j ≤ k) : FnOk P w K mg base CX k f fd ps sp := ⟨F.len, fun A out s H ar us vs Q E z => F.run A out s H ar us vs Q E (z.mono h)⟩
theorem FnOk.imp {sq : Sp} (F : FnOk P w K mg base CX k f fd ps sp) (h : ∀ vs H Q E, sq vs H Q E → sp vs H Q E) : FnOk P w K mg base CX k f fd ps sq :=
  ⟨fun vs H Q E z => F.len vs H Q E (h _ _ _ _ z), fun A out s H ar us vs Q E z e b v m => F.run A out s H ar us vs Q E z e b v (h _ _ _ _ m)⟩
/-- its body, by rules -/
theorem fok_of {name qual : Str} {params : Arguments} {body : List Stmt} {scope : Scope} {dV kV doc pm cdv ct oc : Value} {an od : Option Addr} {osl : Array (Option Value)}
    (lk : K.lookup f = some ⟨oc, od, .func (PySem.W.fnOf name qual params body scope dV kV doc pm an cdv ct), osl⟩) (hc : PySem.W.codeIn K cdv qual = true) (S : FnScope N ps scope) (hn : ∀ vs H Q E, sp vs H Q E → vs.length = ps.length)
    (hb : ∀ (A : Around) (out : List Env) (s : Shared) (H : Hp) (vs : List V) (Q : VK) (E : XK), Room k (A.deeper (envOfC qual scope s.heap.objs.size f cdv)) → sp vs H Q E →
      ∃ t, PSs (cxOf CX P w K mg base N qual scope f cdv A out s H E) body t ∧ t { nx := fun _ G => Q .non G, rt := Q } (start N vs) H) :
    FnOk P w K mg base CX (k + 1) f (PySem.W.fnOf name qual params body scope dV kV doc pm an cdv ct) ps sp := by
  refine ⟨hn, fun A out s H ar us vs Q E z e0 bd rv hs => ?_⟩
  have kin : K.In s.heap := e0.mod.kin.keeps fun c u q => (e0.bs c u q).1
  have nol : s.heap.NoLimit := e0.mod.nolimit.keeps fun c u q => (e0.bs c u q).1
  have kinds : ∀ y ∈ ps.zip us, scope.names.lookup y.1 = some .local ∨ (scope.names.lookup y.1 = some .cell ∧ ((cellsFrom (s.heap.objs.size + 1) scope.names []).lookup y.1).isSome = true) := by
    rintro ⟨n, v⟩ hy
    rcases S.par n (List.of_mem_zip hy).1 with c | c
    · exact .inl c
    · exact .inr ⟨c, PySem.W.cellsFrom_some _ _ _ (.inl c)⟩
  refine codeAny_call_function z.rm.depth (kin _ _ lk) rfl S.co S.gen rfl (PySem.W.codeRec_of kin hc) (bd _ _ _ _ ?_)
  refine wpAny_newFunctionEnv_cells S.kind kinds ?_
  rintro env rfl s1 ic
  refine ⟨nol.keeps ic.toInCall.keep, codeAny_func ?_⟩
  obtain ⟨t, pt, qt⟩ := hb A out s H vs Q E ⟨z.rm.deeper _, z.gd⟩ hs
  have I : Inv (cxOf CX P w K mg base N qual scope f cdv A out s H E) [] (start N vs) H s1 := inv_start S z.rm.hd e0 (hn _ _ _ _ hs) rv ic
  refine wpAny_mono (pt.run [] s1 (start N vs) H _ I qt) (fun fl s2 ends => ?_) fun _ _ h => h
  cases fl with
  | brk => exact (let ⟨_, _, _, no⟩ := ends; no : False).elim
  | cont => exact (let ⟨_, _, _, no⟩ := ends; no : False).elim
  | next =>
    obtain ⟨σ1, H1, J, w1⟩ := ends
    exact ⟨.non, H1, J.os, J.bare, J.base, J.hok, rfl, w1⟩
  | ret u =>
    obtain ⟨v, σ1, H1, J, ru, w1⟩ := ends
    exact ⟨v, H1, J.os, J.bare, J.base, J.hok, ru, w1⟩
theorem fok {x qual : Str} {st : Stmt} (F : Fun K x qual st f fd) (S : FnScope N ps (defScope st)) (hn : ∀ vs H Q E, sp vs H Q E → vs.length = ps.length)
    (hb : ∀ (cdv : Value) (A : Around) (out : List Env) (s : Shared) (H : Hp) (vs : List V) (Q : VK) (E : XK), Room k (A.deeper (envOfC qual (defScope st) s.heap.objs.size f cdv)) → sp vs H Q E →
      ∃ t, PSs (cxOf CX0 P w K mg base N qual (defScope st) f cdv A out s H E).nox (defBody st) t ∧ t { nx := fun _ G => Q .non G, rt := Q } (start N vs) H) : FnOk P w K mg base CX0 (k + 1) f fd ps sp := by
  obtain ⟨oc, od, kV, doc, pm, an, cd, ct, sl, rfl, lk, hc⟩ := F.ex
  exact fok_of lk hc S hn fun A out s H vs Q E z hs => let ⟨t, a, b⟩ := hb cd A out s H vs Q E z hs; ⟨t, a.nox, b⟩
theorem fokX {x qual : Str} {st : Stmt} (F : Fun K x qual st f fd) (S : FnScope N ps (defScope st)) (hn : ∀ vs H Q E, sp vs H Q E → vs.length = ps.length)
    (hb : ∀ (cdv : Value) (A : Around) (out : List Env) (s : Shared) (H : Hp) (vs : List V) (Q : VK) (E : XK), Room k (A.deeper (envOfC qual (defScope st) s.heap.objs.size f cdv)) → sp vs H Q E →
      ∃ t, PSs (cxOf (L2.CX P w) P w K mg base N qual (defScope st) f cdv A out s H E) (defBody st) t ∧ t { nx := fun _ G => Q .non G, rt := Q } (start N vs) H) : FnOk P w K mg base (L2.CX P w) (k + 1) f fd ps sp := by
  obtain ⟨oc, od, kV, doc, pm, an, cd, ct, sl, rfl, lk, hc⟩ := F.ex
  exact fok_of lk hc S hn fun A out s H vs Q E z hs => hb cd A out s H vs Q E z hs
end
section
variable {X : Cx} {CX : CXT} {k : Nat} {f : Addr} {fd : FuncData} {ps ks : List Str} {sp : Sp} {E : XK} {g : List Value → List Value → List Value} {gV : List V → List V → List V}
theorem fn_ran {pins : List (Addr × Obj)} {σ : L2.St} {H : Hp} {s : Shared} {Q : VK} {ar : Args} {us : List Value} {vs : List V} (F : FnOk X.prog X.w X.K X.mg X.base CX k f fd ps sp) (z : Room k X.A) (hx : Passes CX X E)
    (I : Inv X pins σ H s) (bd : BindsTo s fd ar (ps.zip us)) (rv : Vals vs us) (h : sp vs H Q E) : wpAny (model X.prog X.w) X.A (call (.ref f) ar.pos ar.kw) (EP X pins σ Q) X.xe s := by
  refine wpAny_call (codeAny_mono (F.run X.A X.stack s H ar us vs Q E z I.env0 bd rv h) ?_)
  rintro (e | fl) s2 ends
  · exact hx pins σ H s e s2 I ends
  cases fl with
  | ret u => exact I.after ends
  | next => exact (ends : False).elim
  | brk => exact (ends : False).elim
  | cont => exact (ends : False).elim
end
/-! ### calls -/
section
variable {X : Cx} {CX : CXT} {k n : Nat} {f : Addr} {fd : FuncData} {ps ks : List Str} {sp : Sp} {E : XK} {x : Str} {p pos : Pos} {kws : List Keyword} {tk t : TA} {g : List Value → List Value → List Value} {gV : List V → List V → List V}
  {e : Expr} {es : List Expr} {dvs : List V} {ds : List Value}
theorem pe_call (F : FnOk X.prog X.w X.K X.mg X.base CX k f fd ps sp) (z : Room k X.A) (gl : Gl X x) (hm : X.mg x = some (.ref f)) (kp : PySem.W.keepIn X.K (.ref f) = true) (hb : Binds X.K fd ps ds) (hd : Vals dvs ds) (hx : Passes CX X E)
    (ha : PA X (e :: es) t) (hdb : (x == ("__debug__" : Str)) = false := by decide)
    (he : starEach (e :: es) X.env = (false, eval e X.env) :: starEach es X.env := by rfl) (hpl : (backTo pos (starEach es X.env)).any (·.1) = false := by rfl) :
    PE X (.Call (.Name x p) (e :: es) [] pos) (tCall sp dvs E t) := by
  constructor
  intro pins s σ H Q I h
  refine wpAny_Call_Name_kw (ld_glob I gl hm (PySem.W.callWith_K (h₀ := X.base) I.ok.mod.kin kp (thn (ha.run pos pins s σ H _ I h) ?_) he hpl) hdb)
  rintro us s1 ⟨vs, H1, I1, rv, q⟩
  have r2 : Vals (vs ++ dvs) (us ++ ds) := rv.append hd
  exact ⟨I1.kIn, fn_ran (ar := ⟨us, []⟩) F z hx I1 (hb s1 us I1.kIn (r2.length.symm.trans (F.len _ _ _ _ q))) r2 q⟩
end

/-! ### the head of a law -/
end Lk
set_option maxRecDepth 100000
set_option maxHeartbeats 4000000
namespace Lk
open PySem PySem.Spec PyProof.Rows L2

/-! ### enumerate(tuple) -/
theorem meets_enum1 {v : Value} {o : Obj} {H : Heap → Prop} (B : Begins v o H) :
    Meets (Builtin.«enumerate.__new__» ⟨[.type "enumerate", v], []⟩) (fun _ R s => H s.heap ∧
      R (.ok (.ret (.ref (s.heap.push o).objs.size))) { s with heap := (s.heap.push o).push { cls := .type "enumerate", data := .fields #[.none, .bool false, .ref s.heap.objs.size, rawInt 0, .none, .none] } }) :=
  .of_wp fun prog w A R s h => by
    obtain ⟨hp, g, d, tk, os⟩ := s; obtain ⟨h1, h⟩ := h
    have hsub := sub_enumerate
    have q1 : ∀ {A' : Around} {E : Value → Shared → Prop} {Q : Value → Shared → Prop}, Q (.ref hp.objs.size) ⟨hp.push o, g, d, tk, os⟩ → wpAny (model prog w) A' (pyIter v) Q E ⟨hp, g, d, tk, os⟩ :=
      fun q => B.iter prog w _ _ ⟨hp, g, d, tk, os⟩ _ h1 q
    wp_walk using q1
    refine wpAny_stack_any fun st => wpAny_pure ?_
    split
    · rename_i c _ _ _ _ _
      cases (c == Value.type "enumerate")
      · wp_walk using q1
        exact ⟨_, rfl, h⟩
      · wp_walk using q1
        exact ⟨_, rfl, h⟩
    · wp_walk using q1
      exact ⟨_, rfl, h⟩
section
variable {prog : Program} {w : World} {A : Around} {E : Value → Shared → Prop} {s : Shared}
theorem enum1_begins {v : Value} {o : Obj} {H : Heap → Prop} {Q : Value → Shared → Prop} (B : Begins v o H) (h1 : H s.heap)
    (h : ∀ h', IsEnum h' (s.heap.objs.size + 1) s.heap.objs.size 0 .none → h'.get? s.heap.objs.size = some o → h'.objs.size = s.heap.objs.size + 2 →
      (∀ b o, s.heap.get? b = some o → h'.get? b = some o) → Q (.ref (s.heap.objs.size + 1)) { s with heap := h' }) :
    wpAny (model prog w) A (call (.type "enumerate") [v]) Q E s := by
  refine callType_new F.called_enumerate (by decide) (F.typeCall_enumerate_1 _) (F.newCall_enumerate_1 _) (fun obj => F.args_object_init_2 obj _) F.entry_enumerate_new
    (meets_enum1 B) ⟨h1, ?_⟩
  have hz : (s.heap.push o).objs.size = s.heap.objs.size + 1 := Heap.size_push ..
  show _ ∧ _
  rw [hz]
  have he : IsEnum ((s.heap.push o).push { cls := .type "enumerate", data := .fields #[.none, .bool false, .ref s.heap.objs.size, rawInt 0, .none, .none] }) (s.heap.objs.size + 1) s.heap.objs.size 0 .none := by
    have := Heap.get?_push_size (s.heap.push o) (o := { cls := .type "enumerate", data := .fields #[.none, .bool false, .ref s.heap.objs.size, rawInt 0, .none, .none] }) rfl
    rw [hz] at this; exact this
  refine ⟨⟨_, he, rfl⟩, h _ he (Heap.get?_push_of_some _ (Heap.get?_push_size _ B.free)) (by rw [Heap.size_push, hz]) fun b o x => Heap.get?_push_of_some _ (Heap.get?_push_of_some _ x)⟩
end
def IteT (K : PySem.W.Frag) (a : Addr) : It :=
  ⟨fun i H => ∃ (xs : List V) (x : V), SqT K H a xs ∧ xs[i]? = some x, fun i H v H' => ∃ T x, v = .ref T ∧ H T = none ∧ H' = upd H T (.tup [.int (i : Nat), x]) ∧ ∀ xs, SqT K H a xs → xs[i]? = some x, fun i H => ∃ xs : List V, SqT K H a xs ∧ xs.length = i⟩
theorem turn_enumT {P : Program} {w : World} {K : PySem.W.Frag} {elts : List Expr} {kk : Nat} {tpos : Pos} (a e it : Addr) :
    Turn P w K (.Tuple elts kk tpos) (IteT K a) [e, it] e (fun i h => (∃ old, IsEnum h e it ((i : Nat) : Int) old) ∧ h.IsTupleIter it a i ∧ e ≠ it) where
  mem := by simp
  obj := fun i h st b hb => by
    obtain ⟨⟨old, he⟩, ⟨o, ho, hc, hd⟩, _⟩ := st
    have e' : b = e ∨ b = it := by simpa using hb
    rcases e' with z | z
    · rw [z]; exact ⟨_, he, fun v q => nomatch q⟩
    · rw [z]; exact ⟨o, ho, fun v q => by rw [hd] at q; cases q⟩
  keep := fun i h h' st k => let ⟨⟨old, he⟩, hi, hne⟩ := st; ⟨⟨old, k e (by simp) _ he⟩, hi.at fun o q => k it (by simp) o q, hne⟩
  item := by
    intro X hP hw hK hc i pins s σ H E I hf st hg
    subst hP hw hK
    obtain ⟨⟨old, he⟩, hit, hne⟩ := st
    obtain ⟨xs, x, hq, hx⟩ := hg
    obtain ⟨its, rv, p, hz⟩ := I.tuple hq
    obtain ⟨u, hu, ru⟩ := rv.get hx
    have hel : e < s.heap.objs.size := Heap.lt_size he
    have hil : it < s.heap.objs.size := by obtain ⟨_, q, _⟩ := hit; exact Heap.lt_size q
    have hai : a ≠ it := by
      rintro rfl
      obtain ⟨o, ho, hcc, _⟩ := p
      obtain ⟨o', ho', hc', _⟩ := hit
      rw [ho] at ho'; cases ho'
      rw [hcc] at hc'
      exact absurd (Value.type.inj hc') (by decide)
    have hae : e ≠ a := by
      rintro rfl
      obtain ⟨o, ho, hcc, _⟩ := p
      have ho' := ho.symm.trans he
      cases ho'
      exact absurd (Value.type.inj hcc) (by decide)
    have hlt : i < its.toArray.size := by
      rw [List.size_toArray]
      exact (List.getElem?_eq_some_iff.mp hu).1
    refine wpAny_pyNext_enum_itemD (Draws.tuple (A := X.A.in1) (I.ok.hd hc) it a hai its.toArray) he ⟨hit, p⟩ hlt hne (by simp [hne, hae]) fun v h' tk hxv ho st' hT hsz hk => ?_
    have ev : v = u := by
      have q : its.toArray[i]? = some v := hxv
      rw [List.getElem?_toArray, hu] at q
      exact (Option.some.inj q).symm
    subst ev
    refine ⟨_, rfl, wpAny_letOwnedTupleGo_enum (s := { s with heap := h', toks := tk + 1 }) ho fun h'' he' sb => ?_⟩
    have hT2 : h''.get? s.heap.objs.size = some { cls := .type "tuple", data := .seq #[.int i tk, v] } := (sb.2 _ (Nat.ne_of_gt hel)).trans hT
    have new : ObjOk X.prog X.w (upd H s.heap.objs.size (.tup [.int (i : Nat), x])) h'' s.heap.objs.size (.tup [.int (i : Nat), x]) :=
      ⟨by show 2 ≤ sizeLine; decide, [.int i tk, v], .cons ⟨_, rfl⟩ (.cons ru .nil), ⟨_, hT2, rfl, _, rfl⟩⟩
    have I1 : Inv X pins σ (upd H s.heap.objs.size (.tup [.int (i : Nat), x])) { s with heap := h'', toks := tk + 1 } :=
      I.turnedNew (ch := [e, it]) (fun b ob hb q => (sb.2 b (fun z => hb (by simp [z]))).trans (hk b ob (fun z => hb (by simp [z])) (fun z => hb (by simp [z])) q)) hf (Nat.le_refl _) new
    refine ⟨.ref s.heap.objs.size, _, I1, rfl, ⟨_, x, rfl, I.hok.fresh (Nat.le_refl _), rfl, fun ys hy => by rw [I.tuple_inj hy hq]; exact hx⟩, ⟨⟨v, ?_⟩, st'.1.at fun o q => (sb.2 it (Ne.symm hne)).trans q, hne⟩, fun b hb => ?_⟩
    · have e1 : ((i + 1 : Nat) : Int) = (i : Int) + 1 := by omega
      rw [e1]; exact he'
    · have hb' : b < s.heap.objs.size := by
        have e' : b = e ∨ b = it := by simpa using hb
        rcases e' with z | z
        · rw [z]; exact hel
        · rw [z]; exact hil
      rw [upd_ne (Nat.ne_of_lt hb')]
      exact (hf b hb).1
  done := by
    intro X hP hw hK hc i pins s σ H E I hf st hg
    subst hP hw hK
    obtain ⟨⟨old, he⟩, hit, hne⟩ := st
    obtain ⟨xs, hq, hx⟩ := hg
    obtain ⟨its, rv, p, hz⟩ := I.tuple hq
    obtain ⟨f0, f1, f2, f3, f4, f5⟩ := hf it (by simp)
    have hl := rv.length
    have hai : a ≠ it := by
      rintro rfl
      obtain ⟨o, ho, hcc, _⟩ := p
      obtain ⟨o', ho', hc', _⟩ := hit
      rw [ho] at ho'; cases ho'
      rw [hcc] at hc'
      exact absurd (Value.type.inj hc') (by decide)
    have en : i = its.toArray.size := by
      rw [List.size_toArray]
      omega
    subst en
    exact wpAny_pyNext_enum_endD (Draws.tuple (A := X.A.in1) (I.ok.hd hc) it a hai its.toArray) he ⟨hit, p⟩ fun h' eb => ⟨rfl, I.turned (t' := s.toks) (fun b o hb q => eb b o hb q) f0 f1 f3 f4 f5⟩
  self := fun A i s Q E st h => let ⟨⟨_, he⟩, _⟩ := st; wpAny_pyIter_enum he h
def iEnumT (K : PySem.W.Frag) (ta : TA) : TI := fun σ H R => ta σ H fun vs H1 => ∃ a xs, vs = [.ref a] ∧ SqT K H1 a xs ∧ R (IteT K a) H1
theorem pi_enumT {X : Cx} {e : Expr} {ta : TA} {p pos tpos : Pos} {elts : List Expr} {kk : Nat} (hg : Gl X "enumerate") (hm : X.mg "enumerate" = none) (ha : PA X [e] ta) (hs : starEach [e] X.env = [(false, eval e X.env)] := by rfl) :
    PI X (.Tuple elts kk tpos) (.Call (.Name "enumerate" p) [e] [] pos) (iEnumT X.K ta) := by
  refine ⟨fun pins s σ H R I h => ?_⟩
  refine Call_ (ld_blt I hg hm boot_enumerate (PyProof.Rows.callWith_type1 (thn (ha.run pos pins s σ H _ I h) fun us s1 ⟨vs, H1, I1, r1, q1⟩ => ?_) hs rfl))
  obtain ⟨a, xs, ex, hq, q⟩ := q1
  subst ex
  cases r1 with
  | cons r rr =>
    cases rr
    cases r
    obtain ⟨its, rv, p', hz⟩ := I1.tuple hq
    refine enum1_begins (begins_tuple a its.toArray) p' fun h' he hit hsz hk => wpAny_pyIter_enum he ?_
    have I2 : Inv X pins σ H1 { s1 with heap := h' } := I1.kept (t' := s1.toks) hk
    refine ⟨s1.heap.objs.size + 1, [s1.heap.objs.size + 1, s1.heap.objs.size], _, _, H1, rfl, I2, turn_enumT a (s1.heap.objs.size + 1) s1.heap.objs.size, ⟨⟨.none, he⟩, ⟨_, hit, rfl, rfl⟩, Nat.succ_ne_self _⟩, fun b hb => ?_, q⟩
    have e' : b = s1.heap.objs.size + 1 ∨ b = s1.heap.objs.size := by simpa using hb
    have hle : s1.heap.objs.size ≤ b := by
      rcases e' with z | z
      · rw [z]; exact Nat.le_add_right _ _
      · rw [z]; exact Nat.le_refl _
    exact I1.fpOk hle (I1.hok.fresh hle)
theorem walk_enumT {K : PySem.W.Frag} {a : Addr} {xs : List V} : Walk (IteT K a) xs.length (fun H => SqT K H a xs) (YPair (fun i => some (.int (i : Nat))) (fun i => xs[i]?)) := by
  refine ⟨fun i _ hi q => ⟨xs, xs[i], q, by simp [hi]⟩, fun _ q => ⟨xs, q, rfl⟩, fun i H v H' _ q y => ?_⟩
  obtain ⟨T, x, h1, h2, h3, h4⟩ := y
  exact ⟨T, .int (i : Nat), x, h1, h2, h3, rfl, h4 xs q⟩

/-! ### min, max of two texts -/
def lmin (x y : Str) : Str := if y.cps.toList < x.cps.toList then y else x
def lmax (x y : Str) : Str := if x.cps.toList < y.cps.toList then y else x
theorem cmp_lt_strs {prog : Program} {w : World} {A : Around} {P : Nat → Value → Prop} (val : Nat → Str) (hval : ∀ i v, P i v → ∃ t, v = .str (val i) t) :
    CmpOf prog w A .Lt P (fun i j => decide ((val i).cps.toList < (val j).cps.toList)) := fun i j vi vj s Q E hi hj h => by
  obtain ⟨t, rfl⟩ := hval i vi hi
  obtain ⟨u, rfl⟩ := hval j vj hj
  exact richCompare_gives (op := .Lt) (typeIs_str s _ t) (typeIs_str s _ u) F.slot_str_lt F.entry_str_lt (F.args_str_lt_2 _ _) (gives_str_lt _ _ t u) (fun x => nomatch x) h
theorem cmp_gt_strs {prog : Program} {w : World} {A : Around} {P : Nat → Value → Prop} (val : Nat → Str) (hval : ∀ i v, P i v → ∃ t, v = .str (val i) t) :
    CmpOf prog w A .Gt P (fun i j => decide ((val j).cps.toList < (val i).cps.toList)) := fun i j vi vj s Q E hi hj h => by
  obtain ⟨t, rfl⟩ := hval i vi hi
  obtain ⟨u, rfl⟩ := hval j vj hj
  exact richCompare_gives (op := .Gt) (typeIs_str s _ t) (typeIs_str s _ u) F.slot_str_gt F.entry_str_gt (F.args_str_gt_2 _ _) (gives_str_gt _ _ t u) (fun x => nomatch x) h
def txtAt (x y : Str) (i : Nat) : Str := if i = 0 then x else y
theorem two_at {x y : Str} {t u : Tok} {i : Nat} {v : Value} (h : (#[.str x t, .str y u] : Array Value)[i]? = some v) : ∃ k, v = .str (txtAt x y i) k := by
  match i, h with
  | 0, h => exact ⟨t, (Option.some.inj h).symm⟩
  | 1, h => exact ⟨u, (Option.some.inj h).symm⟩
  | i + 2, h =>
    have q : (#[.str x t, .str y u] : Array Value)[i + 2]? = none := by simp
    rw [q] at h
    cases h
section
variable {prog : Program} {w : World} {A : Around} {E : Value → Shared → Prop} {s : Shared}
theorem min_two_strs {a b : Str} {t u : Tok} {Q : Value → Shared → Prop} (hh : A.handled = none)
    (h : ∀ h' tk k, (∀ c o, s.heap.get? c = some o → h'.get? c = some o) → Q (.str (lmin a b) k) { s with heap := h', toks := tk }) :
    wpAny (model prog w) A (call (.builtin "min") [.str a t, .str b u]) Q E s := by
  have hT : (s.heap.push { cls := .type "tuple", data := .seq #[.str a t, .str b u] }).IsTuple s.heap.objs.size #[.str a t, .str b u] := ⟨_, Heap.get?_push_size _ rfl, rfl, 0, rfl⟩
  refine call_min_two (wpAny_pyIter_tuple hT ?_)
  have hsz : (s.heap.push { cls := .type "tuple", data := .seq #[.str a t, .str b u] }).objs.size = s.heap.objs.size + 1 := Heap.size_push ..
  refine ⟨_, [_, s.heap.objs.size], [_], _, _, _, _, rfl, Walks.tuple (A := A.in1) hh _ s.heap.objs.size (by rw [hsz]; exact Nat.ne_of_lt (Nat.lt_succ_self _)) #[.str a t, .str b u],
    ⟨⟨_, Heap.get?_push_size _ rfl, rfl, rfl⟩, hT.push _⟩, fun c hc => ?_, by simp, cmp_lt_strs (txtAt a b) (fun _ _ => two_at), fun v h' tk hP hk => ?_⟩
  · show c < ((s.heap.push _).push _).objs.size
    rw [Heap.size_push, hsz]
    rcases List.mem_cons.mp hc with rfl | hc
    · rw [hsz]; exact Nat.lt_succ_self _
    · rcases List.mem_cons.mp hc with rfl | hc
      · exact Nat.lt_succ_of_lt (Nat.lt_succ_self _)
      · cases hc
  · have hold : ∀ c o, s.heap.get? c = some o → h'.get? c = some o := fun c o e => by
      refine hk c o (fun hm => ?_) (Heap.get?_push_of_some _ (Heap.get?_push_of_some _ e))
      rcases List.mem_cons.mp hm with e1 | hm
      · have := Heap.lt_size e; rw [e1, hsz] at this; exact Nat.lt_irrefl _ (Nat.lt_of_succ_lt this)
      · cases hm
    have hP' : (#[.str a t, .str b u] : Array Value)[argBest (fun i j => decide ((txtAt a b i).cps.toList < (txtAt a b j).cps.toList)) 1]? = some v := hP
    have hv : ∃ k, v = .str (lmin a b) k := by
      by_cases hba : b.cps.toList < a.cps.toList
      · have e : argBest (fun i j => decide ((txtAt a b i).cps.toList < (txtAt a b j).cps.toList)) 1 = 1 := by simp [argBest, txtAt, hba]
        rw [e] at hP'
        refine ⟨u, ?_⟩
        rw [lmin, if_pos hba]
        exact (Option.some.inj hP').symm
      · have e : argBest (fun i j => decide ((txtAt a b i).cps.toList < (txtAt a b j).cps.toList)) 1 = 0 := by simp [argBest, txtAt, hba]
        rw [e] at hP'
        refine ⟨t, ?_⟩
        rw [lmin, if_neg hba]
        exact (Option.some.inj hP').symm
    obtain ⟨k, rfl⟩ := hv
    exact h h' tk k hold
theorem max_two_strs {a b : Str} {t u : Tok} {Q : Value → Shared → Prop} (hh : A.handled = none)
    (h : ∀ h' tk k, (∀ c o, s.heap.get? c = some o → h'.get? c = some o) → Q (.str (lmax a b) k) { s with heap := h', toks := tk }) :
    wpAny (model prog w) A (call (.builtin "max") [.str a t, .str b u]) Q E s := by
  have hT : (s.heap.push { cls := .type "tuple", data := .seq #[.str a t, .str b u] }).IsTuple s.heap.objs.size #[.str a t, .str b u] := ⟨_, Heap.get?_push_size _ rfl, rfl, 0, rfl⟩
  refine call_max_two (wpAny_pyIter_tuple hT ?_)
  have hsz : (s.heap.push { cls := .type "tuple", data := .seq #[.str a t, .str b u] }).objs.size = s.heap.objs.size + 1 := Heap.size_push ..
  refine ⟨_, [_, s.heap.objs.size], [_], _, _, _, _, rfl, Walks.tuple (A := A.in1) hh _ s.heap.objs.size (by rw [hsz]; exact Nat.ne_of_lt (Nat.lt_succ_self _)) #[.str a t, .str b u],
    ⟨⟨_, Heap.get?_push_size _ rfl, rfl, rfl⟩, hT.push _⟩, fun c hc => ?_, by simp, cmp_gt_strs (txtAt a b) (fun _ _ => two_at), fun v h' tk hP hk => ?_⟩
  · show c < ((s.heap.push _).push _).objs.size
    rw [Heap.size_push, hsz]
    rcases List.mem_cons.mp hc with rfl | hc
    · rw [hsz]; exact Nat.lt_succ_self _
    · rcases List.mem_cons.mp hc with rfl | hc
      · exact Nat.lt_succ_of_lt (Nat.lt_succ_self _)
      · cases hc
  · have hold : ∀ c o, s.heap.get? c = some o → h'.get? c = some o := fun c o e => by
      refine hk c o (fun hm => ?_) (Heap.get?_push_of_some _ (Heap.get?_push_of_some _ e))
      rcases List.mem_cons.mp hm with e1 | hm
      · have := Heap.lt_size e; rw [e1, hsz] at this; exact Nat.lt_irrefl _ (Nat.lt_of_succ_lt this)
      · cases hm
    have hP' : (#[.str a t, .str b u] : Array Value)[argBest (fun i j => decide ((txtAt a b j).cps.toList < (txtAt a b i).cps.toList)) 1]? = some v := hP
    have hv : ∃ k, v = .str (lmax a b) k := by
      by_cases hba : a.cps.toList < b.cps.toList
      · have e : argBest (fun i j => decide ((txtAt a b j).cps.toList < (txtAt a b i).cps.toList)) 1 = 1 := by simp [argBest, txtAt, hba]
        rw [e] at hP'
        refine ⟨u, ?_⟩
        rw [lmax, if_pos hba]
        exact (Option.some.inj hP').symm
      · have e : argBest (fun i j => decide ((txtAt a b j).cps.toList < (txtAt a b i).cps.toList)) 1 = 0 := by simp [argBest, txtAt, hba]
        rw [e] at hP'
        refine ⟨t, ?_⟩
        rw [lmax, if_neg hba]
        exact (Option.some.inj hP').symm
    obtain ⟨k, rfl⟩ := hv
    exact h h' tk k hold
end
section
variable {X : Cx}
theorem call_minS (hc : X.calm = true) : CallR X (.builtin "min") (fun xs H Q => ∃ i j, xs = [.str i, .str j] ∧ Q (.str (lmin i j)) H) := by
  intro pins s σ H xs us Q I r h
  obtain ⟨i, j, rfl, q⟩ := h
  obtain ⟨u, w', rfl, ⟨t, rfl⟩, ⟨t', rfl⟩⟩ := vals2 r
  exact min_two_strs (I.ok.hd hc) fun h' tk k kp => ⟨.str _, H, I.kept kp, ⟨_, rfl⟩, q⟩
theorem call_maxS (hc : X.calm = true) : CallR X (.builtin "max") (fun xs H Q => ∃ i j, xs = [.str i, .str j] ∧ Q (.str (lmax i j)) H) := by
  intro pins s σ H xs us Q I r h
  obtain ⟨i, j, rfl, q⟩ := h
  obtain ⟨u, w', rfl, ⟨t, rfl⟩, ⟨t', rfl⟩⟩ := vals2 r
  exact max_two_strs (I.ok.hd hc) fun h' tk k kp => ⟨.str _, H, I.kept kp, ⟨_, rfl⟩, q⟩
end

/-! ### sorted of pairs of texts -/
def encP (b : Addr × Str × Str) : PyData := .tuple [.str b.2.1, .str b.2.2]
def rSortedTT (K : PySem.W.Frag) : List V → Hp → VK → Prop := fun vs H Q => ∃ (a : Addr) (bs : List (Addr × Str × Str)), vs = [V.ref a] ∧ SqL K H a (bs.map fun b => V.ref b.1) ∧ (∀ b ∈ bs, H b.1 = some (.tup [.str b.2.1, .str b.2.2])) ∧
  ∀ p, H p = none → Q (.ref p) (upd H p (.lst ((bs.mergeSort (PySem.W.dataLe false encP)).map fun b => V.ref b.1)))
theorem refs_vals : ∀ {bs : List (Addr × Str × Str)} {its : List Value}, Vals (bs.map fun b => V.ref b.1) its → its = bs.map fun b => Value.ref b.1
  | [], its, h => by cases h; rfl
  | b :: bs, its, h => by
    cases h with
    | cons r t =>
      have e : _ = Value.ref b.1 := r
      rw [e, refs_vals t]
      rfl
theorem vals_refs : ∀ (bs : List (Addr × Str × Str)), Vals (bs.map fun b => V.ref b.1) (bs.map fun b => Value.ref b.1)
  | [] => .nil
  | b :: bs => .cons rfl (vals_refs bs)
theorem each_refs : ∀ (bs : List (Addr × Str × Str)), PySem.W.EachIs (fun v b => v = Value.ref b.1) (bs.map fun b => Value.ref b.1) bs
  | [] => .nil
  | b :: bs => .cons rfl (each_refs bs)
theorem of_each : ∀ {bs : List (Addr × Str × Str)} {out : List Value}, PySem.W.EachIs (fun v b => v = Value.ref b.1) out bs → out = bs.map fun b => Value.ref b.1
  | _, _, .nil => rfl
  | _, _, .cons e t => by rw [e, of_each t]; rfl
theorem each_of {R : Value → Addr × Str × Str → Prop} : ∀ {bs : List (Addr × Str × Str)}, (∀ b ∈ bs, R (Value.ref b.1) b) → PySem.W.EachIs R (bs.map fun b => Value.ref b.1) bs
  | [], _ => .nil
  | b :: bs, h => .cons (h b List.mem_cons_self) (each_of fun c hc => h c (List.mem_cons_of_mem _ hc))
section
variable {X : Cx}
theorem cr_sortedTT (hu : X.A.units + 64 < cLine) : CallR X (.builtin "sorted") (rSortedTT X.K) := by
  intro pins s σ H vs us Q I r h
  obtain ⟨a, bs, rfl, hs, hb, q⟩ := h
  obtain ⟨its, rv, hl, hz⟩ := I.list hs
  rw [Vals.ref1 r]
  have hi := refs_vals rv
  subst hi
  have hlen : bs.length ≤ sizeLine := by rw [List.length_map] at hz; exact hz
  refine PySem.W.sorted_data (R := fun v b => v = Value.ref b.1) (bs := bs) (enc := encP) hl.isList (each_refs bs) (each_of fun b hm => ?_) (PySem.W.AllAlike.of fun b b' => ?_) (PySem.W.Sortable.tuples fun b => ⟨_, _, rfl⟩) hlen (fun b _ => ?_) fun out ho he => ?_
  · obtain ⟨_, its2, r2, o, hob, hc, n, hd⟩ := I.hok _ _ (hb b hm)
    obtain ⟨u1, u2, rfl, ⟨t1, rfl⟩, ⟨t2, rfl⟩⟩ := vals2 r2
    exact ⟨_, Reads.tuple hob hc hd (.cons (Reads.str _ _) (.cons (Reads.str _ _) .nil))⟩
  · simp [encP, PySem.W.alike, PySem.W.alikeAll]
  · have : (encP b).depth = 1 := by simp [encP, PyData.depth, PyData.depthAll]
    omega
  · have eo := of_each he
    subst eo
    obtain ⟨ep, he'⟩ := PyProof.Rows.sortedAll_at s.heap (bs.map fun b => Value.ref b.1) ((bs.mergeSort (PySem.W.dataLe false encP)).map fun b => Value.ref b.1).toArray
    have hlen2 : ((bs.mergeSort (PySem.W.dataLe false encP)).map fun b => V.ref b.1).length ≤ sizeLine := by rw [List.length_map, List.length_mergeSort]; exact hlen
    exact ⟨.ref _, upd H (s.heap.objs.size + 1) (.lst ((bs.mergeSort (PySem.W.dataLe false encP)).map fun b => V.ref b.1)), I.laid (t' := s.toks) (fun _ _ => PyProof.Rows.sortedAll_old) (Nat.le_succ _) ⟨hlen2, _, ep, vals_refs _, he'⟩, rfl, q _ (I.hok.fresh (Nat.le_succ _))⟩
end
end Lk
set_option maxRecDepth 100000
set_option maxHeartbeats 4000000
namespace Lk
open PySem PySem.Spec PyProof.Rows L2

/-! ### heaps -/
theorem same_upd {H : Hp} {p : Addr} {o : HO} (h : H p = none) : Same H (upd H p o) := fun b x e => by
  rw [upd_ne (ne_of_none e h)]
  exact e
/-- all but what stands at b is as it was -/
def Oth (b : Addr) (H H' : Hp) : Prop := ∀ a o, a ≠ b → H a = some o → H' a = some o
theorem Oth.refl (b : Addr) (H : Hp) : Oth b H H := fun _ _ _ h => h
theorem Oth.trans {b : Addr} {H H1 H2 : Hp} (x : Oth b H H1) (y : Oth b H1 H2) : Oth b H H2 := fun a o n h => y a o n (x a o n h)
theorem Oth.of {b : Addr} {H H' : Hp} (x : Same H H') : Oth b H H' := fun a o _ h => x a o h
theorem Oth.upd {b : Addr} {H : Hp} {o : HO} : Oth b H (upd H b o) := fun a u n h => by rw [upd_ne n]; exact h
theorem Oth.free {b p : Addr} {H H' : Hp} (x : Oth b H H') (hb : p ≠ b) (h : H' p = none) : H p = none := by
  cases q : H p with
  | none => rfl
  | some o =>
    rw [x p o hb q] at h
    cases h
def IsBox (H : Hp) (b : Addr) : Prop := ∃ x y z : Int, H b = some (.lst [.int x, .int y, .int z])
theorem IsBox.same {H H' : Hp} {b : Addr} (x : Same H H') (h : IsBox H b) : IsBox H' b := by
  obtain ⟨i, j, k, e⟩ := h
  exact ⟨i, j, k, x _ _ e⟩
theorem IsBox.ne_tup {H : Hp} {b t : Addr} {xs : List V} (h : IsBox H b) (ht : H t = some (.tup xs)) : t ≠ b := by
  obtain ⟨i, j, k, e⟩ := h
  exact ne_of ht e (fun z => nomatch z)
theorem IsBox.ne_dT {H : Hp} {b t : Addr} {xs : List (List Key × V)} (h : IsBox H b) (ht : H t = some (.dT xs)) : t ≠ b := by
  obtain ⟨i, j, k, e⟩ := h
  exact ne_of ht e (fun z => nomatch z)
theorem IsBox.ne_strs {H : Hp} {b t : Addr} {xs : List Str} (h : IsBox H b) (ht : H t = some (.lst (xs.map V.str))) : t ≠ b := by
  obtain ⟨i, j, k, e⟩ := h
  refine ne_of ht e (fun z => ?_)
  match xs, z with
  | [], z => cases z
  | x :: r, z => cases z
theorem IsBox.ne_refs {H : Hp} {b t : Addr} {xs : List Addr} (h : IsBox H b) (ht : H t = some (.lst (xs.map V.ref))) : t ≠ b := by
  obtain ⟨i, j, k, e⟩ := h
  refine ne_of ht e (fun z => ?_)
  match xs, z with
  | [], z => cases z
  | x :: r, z => cases z
theorem IsBox.ne_none {H : Hp} {b p : Addr} (h : IsBox H b) (hp : H p = none) : p ≠ b := by
  obtain ⟨i, j, k, e⟩ := h
  exact (ne_of_none e hp).symm
theorem small9 {n : Nat} (h : n ≤ 9000) : n < sizeLine := Nat.lt_of_le_of_lt h (by decide)
theorem small_le {n : Nat} (h : n ≤ 1000) : n ≤ sizeLine := Nat.le_of_lt (small1000 h)

/-! ### slices -/
def cutL {α : Type} (xs : List α) (lo hi : Option Int) : List α := (xs.drop (HT.sIx xs.length 0 lo)).take (HT.sIx xs.length xs.length hi - HT.sIx xs.length 0 lo)
theorem cutV_map {α : Type} (f : α → V) (xs : List α) (lo hi : Option Int) : cutV (xs.map f) lo hi = (cutL xs lo hi).map f := by
  unfold cutV cutL
  rw [List.length_map, List.map_take, List.map_drop]
theorem cutL_to {α : Type} (xs : List α) (k : Nat) : cutL xs none (some (k : Int)) = xs.take k := by
  unfold cutL
  rw [HT.sIx_none, HT.sIx_nat, List.drop_zero, Nat.sub_zero]
  by_cases h : k ≤ xs.length
  · rw [Nat.min_eq_left h]
  · rw [Nat.min_eq_right (by omega), List.take_of_length_le (Nat.le_refl _), List.take_of_length_le (by omega)]
theorem cutL_from {α : Type} (xs : List α) (k : Nat) : cutL xs (some (k : Int)) none = xs.drop k := by
  unfold cutL
  rw [HT.sIx_none, HT.sIx_nat]
  by_cases h : k ≤ xs.length
  · rw [Nat.min_eq_left h, List.take_of_length_le (by rw [List.length_drop]; exact Nat.le_refl _)]
  · rw [Nat.min_eq_right (by omega), List.drop_length, List.drop_eq_nil_of_le (by omega), List.take_nil]
theorem cutL_le {α : Type} (xs : List α) (lo hi : Option Int) : (cutL xs lo hi).length ≤ xs.length := by
  unfold cutL
  rw [List.length_take, List.length_drop]
  omega
theorem cutL_has {α : Type} {xs : List α} {k : Nat} {hi : Option Int} (h : 0 < (cutL xs (some (k : Int)) hi).length) : k < xs.length := by
  unfold cutL at h
  rw [List.length_take, List.length_drop, HT.sIx_nat] at h
  omega
theorem at_map {α : Type} {f : α → V} {xs : List α} {i : Nat} {x : V} (h : (xs.map f)[i]? = some x) : ∃ y, xs[i]? = some y ∧ x = f y := by
  rw [List.getElem?_map] at h
  cases e : xs[i]? with
  | none => rw [e] at h; cases h
  | some y =>
    rw [e] at h
    exact ⟨y, rfl, (Option.some.inj h).symm⟩
theorem ix_map {α : Type} {f : α → V} {xs : List α} {i : Nat} {y : α} (h : xs[i]? = some y) : (xs.map f)[i]? = some (f y) := by
  rw [List.getElem?_map, h]
  rfl
theorem set_map {α : Type} {f : α → V} {xs : List α} {i : Nat} {y : α} : (xs.map f).set i (f y) = (xs.set i y).map f := by
  rw [List.map_set]

theorem bit01 (k : Bool) : -(2 ^ 64) < (if k = true then 1 else 0 : Int) ∧ (if k = true then 1 else 0 : Int) < 2 ^ 64 := by cases k <;> decide
theorem bit2 (k : Bool) : (0 : Int) ≤ (if k = true then 1 else 0 : Int) ∧ (if k = true then 1 else 0 : Int) ≤ 1 := by cases k <;> decide

/-! ### names of the built-in -/
structure Blt (mg : Str → Option Value) : Prop where
  len : mg "len" = none
  abs : mg "abs" = none
  int : mg "int" = none
  list : mg "list" = none
  tuple : mg "tuple" = none
  enumerate : mg "enumerate" = none
  range : mg "range" = none
  min : mg "min" = none
  max : mg "max" = none
  sorted : mg "sorted" = none
  isinstance : mg "isinstance" = none
  zip : mg "zip" = none
  all : mg "all" = none
  str : mg "str" = none
  bool : mg "bool" = none
  any : mg "any" = none
  repr : mg "repr" = none
  set : mg "set" = none
  sum : mg "sum" = none
  reversed : mg "reversed" = none
  dict : mg "dict" = none

/-! ### a def as its callers know it -/
structure Cal (P : Program) (w : World) (K : PySem.W.Frag) (mg : Str → Option Value) (base : Heap) (k : Nat) (x : Str) (ps : List Str) (sp : Sp) : Prop where
  ex : ∃ f fd, FnOk P w K mg base CX0 k f fd ps sp ∧ mg x = some (.ref f) ∧ PySem.W.keepIn K (.ref f) = true ∧ Binds K fd ps []
theorem Cal.mono {P : Program} {w : World} {K : PySem.W.Frag} {mg : Str → Option Value} {base : Heap} {j k : Nat} {x : Str} {ps : List Str} {sp : Sp} (C : Cal P w K mg base j x ps sp) (h : j ≤ k := by first | decide | omega) : Cal P w K mg base k x ps sp := by
  obtain ⟨f, fd, F, r⟩ := C.ex
  exact ⟨f, fd, F.mono h, r⟩
section
variable {X : Cx} {k n : Nat} {x : Str} {ps : List Str} {sp : Sp} {p pos : Pos} {e : Expr} {es : List Expr} {t : TA}
theorem pe_cal (C : Cal X.prog X.w X.K X.mg X.base k x ps sp) (hr : Room n X.A) (ha : PA X (e :: es) t) (hle : k ≤ n := by first | decide | omega) (hg : Gl X x := by rfl) (hdb : (x == ("__debug__" : Str)) = false := by decide)
    (he : starEach (e :: es) X.env = (false, eval e X.env) :: starEach es X.env := by rfl) (hpl : (backTo pos (starEach es X.env)).any (·.1) = false := by rfl) :
    PE X (.Call (.Name x p) (e :: es) [] pos) (tCall sp [] E0 t) := by
  obtain ⟨f, fd, F, hm, hk, hb⟩ := C.ex
  exact pe_call F (hr.mono hle) hg hm hk hb .nil pass0 ha (hdb := hdb) (he := he) (hpl := hpl)
end

/-! ### drawing -/
def spTake : Sp := fun vs H Q _ => ∃ (b : Addr) (many : Int), vs = [.ref b, .int many] ∧ IsBox H b ∧ 0 < many ∧ many < 1073741824 ∧
  ∀ (v : Int) (H' : Hp), Oth b H H' → IsBox H' b → 0 ≤ v → v < many → Q (.int v) H'
def spBox : Sp := fun vs H Q _ => ∃ (a : Addr) (ns : List Int) (k : Nat), vs = [.ref a, .int k] ∧ H a = some (.lst (ns.map V.int)) ∧ k < ns.length ∧ k < 1000 ∧
  ∀ (b : Addr) (H' : Hp), Same H H' → H b = none → IsBox H' b → Q (.ref b) H'
def spCells (K : PySem.W.Frag) : Sp := fun vs H Q _ => ∃ (a : Addr) (ns : List Int) (u : Nat), vs = [.ref a, .int u] ∧ SqL K H a (ns.map V.int) ∧ ns.length ≤ 63 ∧ 0 < u ∧ u ≤ 3 ∧
  ∀ (c : Addr) (ms : List Int) (H' : Hp), Same H H' → H c = none → H' c = some (.lst (ms.map V.int)) → 0 < ms.length → ms.length ≤ 3 → Q (.ref c) H'
end Lk
set_option maxRecDepth 100000
set_option maxHeartbeats 4000000
namespace Lk
open PySem PySem.Spec PyProof.Rows L2

/-! ### texts and names -/
abbrev tlx (x : Str) : List Nat := x.cps.toList
theorem len_tlx (x : Str) : x.length = (tlx x).length := by
  show x.cps.size = x.cps.toList.length
  rw [Array.length_toList]
theorem tlx_app (x y : Str) : tlx (x ++ y) = tlx x ++ tlx y := by
  show (x.cps ++ y.cps).toList = _
  rw [Array.toList_append]
theorem str_ext {x y : Str} (h : tlx x = tlx y) : x = y := by
  obtain ⟨a⟩ := x
  obtain ⟨b⟩ := y
  have e : a = b := Array.toList_inj.mp h
  rw [e]
def Low (l : List Nat) : Prop := ∀ c ∈ l, 97 ≤ c ∧ c ≤ 122
def NameOk (x : Str) : Prop := 1 ≤ (tlx x).length ∧ (tlx x).length ≤ 8 ∧ Low (tlx x)
theorem NameOk.len {x : Str} (h : NameOk x) : x.length ≤ 8 := by rw [len_tlx]; exact h.2.1
def Good (x : Str) : Prop := PyData.strOk x = true
def Goods (xs : List Str) : Prop := ∀ x ∈ xs, Good x
theorem NameOk.good {x : Str} (h : NameOk x) : Good x := by
  show x.cps.all (· < 0x110000) = true
  rw [← Array.all_toList, List.all_eq_true]
  intro c hc
  have q := h.2.2 c hc
  exact decide_eq_true (by omega)
theorem lmin_good {x y : Str} (hx : Good x) (hy : Good y) : Good (lmin x y) := by
  unfold lmin
  split
  · exact hy
  · exact hx
theorem lmax_good {x y : Str} (hx : Good x) (hy : Good y) : Good (lmax x y) := by
  unfold lmax
  split
  · exact hy
  · exact hx
def abc : Str := "abcdefghijklmnopqrstuvwxyz"
theorem abc_at : ∀ i : Nat, i < 26 → (tlx abc)[i]? = some (97 + i) := by decide +kernel
theorem abc_len : abc.length = 26 := by decide +kernel
theorem abc_ix {i : Int} (h0 : 0 ≤ i) (h1 : i < 26) : atI (tlx abc) i = some (97 + i.toNat) := by
  have e : i = ((i.toNat : Nat) : Int) := by omega
  have q := atI_nat (abc_at i.toNat (by omega))
  rw [← e] at q
  exact q
theorem Low.one {n : Nat} (h : n < 26) : Low [97 + n] := fun c hc => by
  have e : c = 97 + n := by simpa using hc
  omega
theorem join0 : ∀ ys : List Str, tlx (Txt.join ("" : Str) ys) = (ys.map tlx).flatten := by
  intro ys
  rw [TL.join_eq]
  refine (TL.tl_join _ _).trans ?_
  have e : TL.tl ("" : Str) = [] := by decide +kernel
  rw [e]
  have g : ∀ l : List (List Nat), TL.joinL [] l = l.flatten := by
    intro l
    induction l with
    | nil => rfl
    | cons a r ih =>
      cases r with
      | nil => simp [TL.joinL]
      | cons b r =>
        show a ++ ([] ++ TL.joinL [] (b :: r)) = _
        rw [ih]
        simp
  exact g (ys.map TL.tl)
def IsOne (x : Str) : Prop := ∃ n : Nat, n < 26 ∧ x = ⟨#[97 + n]⟩
theorem ones_flat : ∀ {ys : List Str}, (∀ y ∈ ys, IsOne y) → ((ys.map tlx).flatten).length = ys.length ∧ Low (ys.map tlx).flatten
  | [], _ => ⟨rfl, fun _ h => nomatch h⟩
  | y :: r, h => by
    obtain ⟨e1, e2⟩ := ones_flat (ys := r) fun z hz => h z (List.mem_cons_of_mem _ hz)
    obtain ⟨n, hn, rfl⟩ := h y List.mem_cons_self
    constructor
    · rw [List.map_cons, List.flatten_cons, List.length_append, e1]
      simp
      omega
    · rw [List.map_cons, List.flatten_cons]
      intro c hc
      rcases List.mem_append.mp hc with q | q
      · have e : c = 97 + n := by simpa using q
        omega
      · exact e2 c q
theorem ones_len : ∀ {ys : List Str}, (∀ y ∈ ys, IsOne y) → (ys.map (·.length)).sum = ys.length
  | [], _ => rfl
  | y :: r, h => by
    have ih := ones_len (ys := r) fun z hz => h z (List.mem_cons_of_mem _ hz)
    obtain ⟨n, hn, rfl⟩ := h y List.mem_cons_self
    rw [List.map_cons, List.sum_cons, ih, List.length_cons]
    show 1 + r.length = _
    omega
theorem cutS_tlx (z : Str) (lo hi : Option Int) : tlx (cutS z lo hi) = cutL (tlx z) lo hi := by
  unfold cutS cutL
  show (List.toArray _).toList = _
  rw [List.toList_toArray, len_tlx]
theorem Low.cut {l : List Nat} {lo hi : Option Int} (h : Low l) : Low (cutL l lo hi) := fun c hc => h c (List.mem_of_mem_drop (List.mem_of_mem_take hc))
theorem Low.app {l m : List Nat} (h : Low l) (h' : Low m) : Low (l ++ m) := fun c hc => (List.mem_append.mp hc).elim (h c) (h' c)
theorem apart {step : Int} (hs : step = 1 ∨ step = 3 ∨ step = 7 ∨ step = 25) {i j : Nat} (h : j < i) (hi : i < 26) (f : Int) : (f + step * (i : Int)) % 26 ≠ (f + step * (j : Int)) % 26 := by
  rcases hs with rfl | rfl | rfl | rfl <;> omega
/-- a text's last sign -/
def lastC (x : Str) : Option Nat := (tlx x).getLast?
theorem lastC_app (x : Str) (n : Nat) : lastC (x ++ ⟨#[n]⟩) = some n := by
  unfold lastC
  rw [tlx_app]
  simp
theorem ins_perm {α : Type} (l : List α) (p : Nat) (x : α) : (l.take p ++ [x] ++ l.drop p).Perm (x :: l) := by
  have e : l.take p ++ [x] ++ l.drop p = l.take p ++ x :: l.drop p := by simp
  rw [e]
  refine List.perm_middle.trans ?_
  rw [List.take_append_drop]
theorem ins_map {α : Type} (f : α → V) (l : List α) (p : Nat) (x : α) : (l.map f).take p ++ [f x] ++ (l.map f).drop p = (l.take p ++ [x] ++ l.drop p).map f := by
  rw [List.map_append, List.map_append, List.map_take, List.map_drop]
  rfl

/-! ### the order of texts -/
theorem lmin_or (x y : Str) : (lmin x y = x ∧ lmax x y = y) ∨ (lmin x y = y ∧ lmax x y = x) := by
  unfold lmin lmax
  by_cases h : y.cps.toList < x.cps.toList
  · rw [if_pos h, if_neg (List.lt_asymm h)]
    exact .inr ⟨rfl, rfl⟩
  · rw [if_neg h]
    by_cases h2 : x.cps.toList < y.cps.toList
    · rw [if_pos h2]
      exact .inl ⟨rfl, rfl⟩
    · rw [if_neg h2]
      have e : x = y := str_ext (List.le_antisymm h h2)
      subst e
      exact .inl ⟨rfl, rfl⟩
theorem lpair_comm (x y : Str) : (lmin x y, lmax x y) = (lmin y x, lmax y x) := by
  unfold lmin lmax
  by_cases h : y.cps.toList < x.cps.toList
  · rw [if_pos h, if_neg (List.lt_asymm h), if_neg (List.lt_asymm h), if_pos h]
  · by_cases h2 : x.cps.toList < y.cps.toList
    · rw [if_neg h, if_pos h2, if_pos h2, if_neg h]
    · have e : x = y := str_ext (List.le_antisymm h h2)
      subst e
      rfl
/-- friends, as a law has them: each pair a least and a greatest -/
def PalsOk (ps : List (Str × Str)) : Prop := ∀ p ∈ ps, ∃ m q, Good m ∧ Good q ∧ p = (lmin m q, lmax m q)
def frd (ps : List (Str × Str)) (a b : Str) : Bool := decide ((a, b) ∈ ps ∨ (b, a) ∈ ps)
theorem frd_comm (ps : List (Str × Str)) (a b : Str) : frd ps a b = frd ps b a := by
  unfold frd
  exact decide_eq_decide.mpr Or.comm
theorem frd_pair {ps : List (Str × Str)} (h : PalsOk ps) (a b : Str) : decide ((lmin a b, lmax a b) ∈ ps) = frd ps a b := by
  unfold frd
  refine decide_eq_decide.mpr ⟨fun q => ?_, fun q => ?_⟩
  · rcases lmin_or a b with ⟨e1, e2⟩ | ⟨e1, e2⟩
    · rw [e1, e2] at q; exact .inl q
    · rw [e1, e2] at q; exact .inr q
  · rcases q with q | q
    · obtain ⟨m, n, _, _, e⟩ := h _ q
      have e1 : a = lmin m n := (Prod.mk.inj e).1
      have e2 : b = lmax m n := (Prod.mk.inj e).2
      rcases lmin_or m n with ⟨f1, f2⟩ | ⟨f1, f2⟩
      · rw [f1] at e1; rw [f2] at e2; subst e1 e2; rw [← e]; exact q
      · rw [f1] at e1; rw [f2] at e2; subst e1 e2; rw [lpair_comm, ← e]; exact q
    · obtain ⟨m, n, _, _, e⟩ := h _ q
      have e1 : b = lmin m n := (Prod.mk.inj e).1
      have e2 : a = lmax m n := (Prod.mk.inj e).2
      rcases lmin_or m n with ⟨f1, f2⟩ | ⟨f1, f2⟩
      · rw [f1] at e1; rw [f2] at e2; subst e1 e2; rw [lpair_comm, ← e]; exact q
      · rw [f1] at e1; rw [f2] at e2; subst e1 e2; rw [← e]; exact q

theorem menu4 {v : Int} (h0 : 0 ≤ v) (h1 : v < 4) : ∃ step : Int, (step = 1 ∨ step = 3 ∨ step = 7 ∨ step = 25) ∧ atI [V.int 1, V.int 3, V.int 7, V.int 25] v = some (.int step) := by
  have e : v = 0 ∨ v = 1 ∨ v = 2 ∨ v = 3 := by omega
  rcases e with rfl | rfl | rfl | rfl
  · exact ⟨1, by simp, rfl⟩
  · exact ⟨3, by simp, rfl⟩
  · exact ⟨7, by simp, rfl⟩
  · exact ⟨25, by simp, rfl⟩
theorem name_ok {stem : Str} {hi : Option Int} {n : Nat} (h1 : (tlx stem).length ≤ 7) (h2 : Low (tlx stem)) (hn : n < 26) : NameOk (cutS stem none hi ++ ⟨#[97 + n]⟩) := by
  have e : tlx (cutS stem none hi ++ ⟨#[97 + n]⟩) = cutL (tlx stem) none hi ++ [97 + n] := by rw [tlx_app, cutS_tlx]
  have q := cutL_le (tlx stem) none hi
  refine ⟨?_, ?_, ?_⟩
  · rw [e]; simp
  · rw [e, List.length_append, List.length_singleton]; omega
  · rw [e]; exact (Low.cut h2).app (Low.one hn)

/-! ### friends as they stand -/
abbrev B3 := Addr × Str × Str
def refs (bs : List B3) : List V := bs.map fun b => V.ref b.1
def PairsAt (H : Hp) (bs : List B3) : Prop := ∀ b ∈ bs, H b.1 = some (.tup [.str b.2.1, .str b.2.2])
theorem PairsAt.same {H H' : Hp} {bs : List B3} (s : Same H H') (h : PairsAt H bs) : PairsAt H' bs := fun b hb => s _ _ (h b hb)
theorem PairsAt.oth {H H' : Hp} {b : Addr} {bs : List B3} (s : Oth b H H') (hb : IsBox H b) (h : PairsAt H bs) : PairsAt H' bs := fun c hc => s _ _ (hb.ne_tup (h c hc)) (h c hc)
/-- a target for a tuple or a list -/
def gOrM (t u : TG) : TG := fun v σ H Q => t v σ H Q ∨ u v σ H Q
theorem pg_orM {X : Cx} {tg : Expr} {t u : TG} (a : PG X tg t) (b : PG X tg u) : PG X tg (gOrM t u) := pg_or2 a b
/-- .. or as lists of two -/
def PairsB (H : Hp) (bs : List B3) : Prop := ∀ b ∈ bs, H b.1 = some (.tup [.str b.2.1, .str b.2.2]) ∨ H b.1 = some (.lst [.str b.2.1, .str b.2.2])
theorem PairsAt.b {H : Hp} {bs : List B3} (h : PairsAt H bs) : PairsB H bs := fun c hc => .inl (h c hc)
theorem PairsB.same {H H' : Hp} {bs : List B3} (s : Same H H') (h : PairsB H bs) : PairsB H' bs := fun b hb => (h b hb).imp (s _ _) (s _ _)
/-- FRIENDS as a tuple -/
def PalsAt (H : Hp) (a : Addr) (ps : List (Str × Str)) : Prop := ∃ bs : List B3, H a = some (.tup (refs bs)) ∧ PairsAt H bs ∧ ps = bs.map (·.2)
theorem PalsAt.same {H H' : Hp} {a : Addr} {ps : List (Str × Str)} (s : Same H H') (h : PalsAt H a ps) : PalsAt H' a ps := by
  obtain ⟨bs, h1, h2, h3⟩ := h
  exact ⟨bs, s _ _ h1, h2.same s, h3⟩
theorem PalsAt.oth {H H' : Hp} {a b : Addr} {ps : List (Str × Str)} (s : Oth b H H') (hb : IsBox H b) (h : PalsAt H a ps) : PalsAt H' a ps := by
  obtain ⟨bs, h1, h2, h3⟩ := h
  exact ⟨bs, s _ _ (hb.ne_tup h1) h1, h2.oth s hb, h3⟩
/-- .. or a list of these -/
def FrAt (H : Hp) (a : Addr) (ps : List (Str × Str)) : Prop := ∃ bs : List B3, (H a = some (.tup (refs bs)) ∨ H a = some (.lst (refs bs))) ∧ PairsB H bs ∧ ps = bs.map (·.2)
theorem PalsAt.fr {H : Hp} {a : Addr} {ps : List (Str × Str)} (h : PalsAt H a ps) : FrAt H a ps := by
  obtain ⟨bs, h1, h2, h3⟩ := h
  exact ⟨bs, .inl h1, h2.b, h3⟩
theorem FrAt.same {H H' : Hp} {a : Addr} {ps : List (Str × Str)} (s : Same H H') (h : FrAt H a ps) : FrAt H' a ps := by
  obtain ⟨bs, h1, h2, h3⟩ := h
  exact ⟨bs, h1.elim (fun e => .inl (s _ _ e)) (fun e => .inr (s _ _ e)), h2.same s, h3⟩
/-- what _law_pals tells of a pair -/
def OfPool (pool : List Str) (ps : List (Str × Str)) : Prop := ∀ p ∈ ps, ∃ m q, m ∈ pool ∧ q ∈ pool ∧ m ≠ q ∧ p = (lmin m q, lmax m q)
theorem OfPool.ok {pool : List Str} {ps : List (Str × Str)} (h : OfPool pool ps) (hg : Goods pool) : PalsOk ps := fun p hp => by
  obtain ⟨m, q, h1, h2, _, e⟩ := h p hp
  exact ⟨m, q, hg m h1, hg q h2, e⟩
theorem OfPool.irr {pool : List Str} {ps : List (Str × Str)} (h : OfPool pool ps) (x : Str) : frd ps x x = false := by
  unfold frd
  refine decide_eq_false fun z => ?_
  have z' : (x, x) ∈ ps := z.elim id id
  obtain ⟨m, q, _, _, ne, e⟩ := h _ z'
  have e1 := (Prod.mk.inj e).1
  have e2 := (Prod.mk.inj e).2
  rcases lmin_or m q with ⟨f1, f2⟩ | ⟨f1, f2⟩
  · exact ne ((f1.symm.trans e1.symm).trans (e2.trans f2))
  · exact ne ((f2.symm.trans e2.symm).trans (e1.trans f1))
def PGood (ps : List (Str × Str)) : Prop := ∀ p ∈ ps, Good p.1 ∧ Good p.2
theorem PalsOk.good {ps : List (Str × Str)} (h : PalsOk ps) : PGood ps := fun p hp => by
  obtain ⟨m, q, h1, h2, e⟩ := h p hp
  rw [e]
  exact ⟨lmin_good h1 h2, lmax_good h1 h2⟩
def spPals : Sp := fun vs H Q _ => ∃ (b l : Addr) (pool : List Str), vs = [.ref b, .ref l] ∧ IsBox H b ∧ H l = some (.lst (pool.map V.str)) ∧ pool.Nodup ∧ pool.length ≤ 26 ∧
  ∀ (a : Addr) (bs : List B3) (H' : Hp), Oth b H H' → IsBox H' b → H a = none → H' a = some (.tup (refs bs)) → PairsAt H' bs → OfPool pool (bs.map (·.2)) → bs.length ≤ 1000 → (∃ cs : List B3, bs = cs.mergeSort (PySem.W.dataLe false encP)) → Q (.ref a) H'

def spNames : Sp := fun vs H Q _ => ∃ (b : Addr) (many : Nat), vs = [.ref b, .int many] ∧ IsBox H b ∧ many ≤ 26 ∧
  ∀ (l : Addr) (names : List Str) (H' : Hp), Oth b H H' → IsBox H' b → H l = none → H' l = some (.lst (names.map V.str)) → names.length = many → names.Nodup → (∀ x ∈ names, NameOk x) → Q (.ref l) H'
end Lk
set_option maxRecDepth 100000
set_option maxHeartbeats 4000000
namespace Lk
open PySem PySem.Spec PyProof.Rows L2
theorem u65 {k : Nat} {A : Around} (r : Room k A) : A.units + 65 < cLine := by have := r.un; omega

/-! ### data -/
def encQ (p : Str × Str) : PyData := .tuple [.str p.1, .str p.2]
theorem eqv_strs : ∀ xs ys : List Str, PyData.eqvAll (xs.map .str) (ys.map .str) = decide (xs = ys)
  | [], [] => by simp [PyData.eqvAll]
  | [], _ :: _ => by simp [PyData.eqvAll]
  | _ :: _, [] => by simp [PyData.eqvAll]
  | x :: xs, y :: ys => by
    rw [List.map_cons, List.map_cons, PyData.eqvAll, eqv_strs xs ys]
    by_cases h : x = y
    · subst h
      simp [PyData.eqv]
    · simp [PyData.eqv, h]
theorem eqv_pair (p q : Str × Str) : PyData.eqv (encQ p) (encQ q) = decide (p = q) := by
  obtain ⟨a, b⟩ := p
  obtain ⟨c, d⟩ := q
  have e := eqv_strs [a, b] [c, d]
  have e2 : PyData.eqv (encQ (a, b)) (encQ (c, d)) = PyData.eqvAll ([a, b].map .str) ([c, d].map .str) := by simp [encQ, PyData.eqv]
  rw [e2, e]
  refine decide_eq_decide.mpr ?_
  simp
theorem lay_strs : ∀ {xs : List Str}, Goods xs → PyData.canLayAll0 (xs.map .str) = true
  | [], _ => by simp [PyData.canLayAll0]
  | x :: xs, h => by
    have h1 : PyData.strOk x = true := h x List.mem_cons_self
    simp [PyData.canLayAll0, PyData.canLay0, h1, lay_strs (xs := xs) fun y hy => h y (List.mem_cons_of_mem _ hy)]
theorem dep_strs : ∀ xs : List Str, PyData.depthAll (xs.map .str) = 0
  | [] => by simp [PyData.depthAll]
  | x :: xs => by simp [PyData.depthAll, PyData.depth, dep_strs xs]
theorem sh_list {xs : List Str} (h : Goods xs) : SeqAt.shaped (.list (xs.map .str)) = true := by
  show (PyData.canLay0 (.list (xs.map .str)) && decide (PyData.depth (.list (xs.map .str)) ≤ 64)) = true
  simp [PyData.canLay0, PyData.depth, lay_strs h, dep_strs]
theorem sh_tuple {xs : List Str} (h : Goods xs) : SeqAt.shaped (.tuple (xs.map .str)) = true := by
  show (PyData.canLay0 (.tuple (xs.map .str)) && decide (PyData.depth (.tuple (xs.map .str)) ≤ 64)) = true
  simp [PyData.canLay0, PyData.depth, lay_strs h, dep_strs]
theorem lay_pairs : ∀ {ps : List (Str × Str)}, PGood ps → PyData.canLayAll0 (ps.map encQ) = true
  | [], _ => by simp [PyData.canLayAll0]
  | p :: ps, h => by
    have h1 : PyData.strOk p.1 = true := (h p List.mem_cons_self).1
    have h2 : PyData.strOk p.2 = true := (h p List.mem_cons_self).2
    simp [PyData.canLayAll0, PyData.canLay0, encQ, h1, h2, lay_pairs (ps := ps) fun y hy => h y (List.mem_cons_of_mem _ hy)]
theorem dep_pairs : ∀ ps : List (Str × Str), PyData.depthAll (ps.map encQ) ≤ 1
  | [] => by simp [PyData.depthAll]
  | p :: ps => by
    have := dep_pairs ps
    simp only [List.map_cons, PyData.depthAll, encQ, PyData.depth]
    omega
theorem sh_pals {ps : List (Str × Str)} (h : PGood ps) : SeqAt.shaped (.tuple (ps.map encQ)) = true := by
  show (PyData.canLay0 (.tuple (ps.map encQ)) && decide (PyData.depth (.tuple (ps.map encQ)) ≤ 64)) = true
  have := dep_pairs ps
  have e : PyData.depth (.tuple (ps.map encQ)) ≤ 64 := by
    simp only [PyData.depth]
    omega
  rw [decide_eq_true e, Bool.and_true]
  simp only [PyData.canLay0]
  exact lay_pairs h
theorem goods2 {x y : Str} (hx : Good x) (hy : Good y) : Goods [x, y] := fun z hz => by
  rcases List.mem_cons.mp hz with rfl | hz
  · exact hx
  · have e : z = y := by simpa using hz
    rw [e]
    exact hy
theorem sh_pair {p : Str × Str} (h : Good p.1 ∧ Good p.2) : SeqAt.shaped (encQ p) = true := sh_tuple (xs := [p.1, p.2]) (goods2 h.1 h.2)
section
variable {K : PySem.W.Frag} {H : Hp}
theorem dp_strs : ∀ xs : List Str, DpAll K H (xs.map V.str) (xs.map .str)
  | [] => .nil
  | x :: xs => .cons (.str x) (dp_strs xs)
theorem dp_list {a : Addr} {xs : List Str} (h : H a = some (.lst (xs.map V.str))) : Dp K H (.ref a) (.list (xs.map .str)) := .lst (.inl (.inl h)) (dp_strs xs)
theorem dp_tuple {a : Addr} {xs : List Str} (h : H a = some (.tup (xs.map V.str))) : Dp K H (.ref a) (.tuple (xs.map .str)) := .tup (.inl (.inl h)) (dp_strs xs)
theorem dp_pairs : ∀ {bs : List B3}, PairsAt H bs → DpAll K H (refs bs) ((bs.map (·.2)).map encQ)
  | [], _ => .nil
  | b :: bs, h => .cons (dp_tuple (xs := [b.2.1, b.2.2]) (h b List.mem_cons_self)) (dp_pairs (bs := bs) fun c hc => h c (List.mem_cons_of_mem _ hc))
theorem dp_pals {a : Addr} {ps : List (Str × Str)} (h : PalsAt H a ps) : Dp K H (.ref a) (.tuple (ps.map encQ)) := by
  obtain ⟨bs, h1, h2, rfl⟩ := h
  exact .tup (.inl (.inl h1)) (dp_pairs h2)
end
theorem any_pair (ps : List (Str × Str)) (p : Str × Str) : ((ps.map encQ).any fun z => PyData.eqv z (encQ p)) = decide (p ∈ ps) := by
  rw [List.any_map]
  induction ps with
  | nil => rfl
  | cons q r ih =>
    rw [List.any_cons, ih]
    show (PyData.eqv (encQ q) (encQ p) || _) = _
    rw [eqv_pair]
    by_cases h : q = p
    · subst h
      simp
    · have h' : ¬ p = q := fun z => h z.symm
      simp [h, h']

/-! ### tuples whose object is known to have no dict: their methods may be called -/
def TupAt (H : Hp) (t : Addr) (xs : List V) : Prop := ∃ o : Obj, o.dict = none ∧ H t = some (.frz o (.tup xs))
theorem TupAt.same {H H' : Hp} {t : Addr} {xs : List V} (s : Same H H') (h : TupAt H t xs) : TupAt H' t xs := by
  obtain ⟨o, h1, h2⟩ := h
  exact ⟨o, h1, s _ _ h2⟩
theorem TupAt.sq {K : PySem.W.Frag} {H : Hp} {t : Addr} {xs : List V} (h : TupAt H t xs) : SqT K H t xs := by
  obtain ⟨o, _, h2⟩ := h
  exact .inl (.inr ⟨o, h2⟩)
theorem TupAt.ne {H : Hp} {b t : Addr} {xs : List V} (h : TupAt H t xs) (hb : IsBox H b) : t ≠ b := by
  obtain ⟨o, _, h2⟩ := h
  obtain ⟨i, j, k, e⟩ := hb
  exact ne_of h2 e (fun z => nomatch z)
theorem TupAt.ne_new {H : Hp} {p t : Addr} {xs : List V} (h : TupAt H t xs) (hp : H p = none) : t ≠ p := by
  obtain ⟨o, _, h2⟩ := h
  exact ne_of_none h2 hp
theorem TupAt.oth {H H' : Hp} {b t : Addr} {xs : List V} (s : Oth b H H') (hb : IsBox H b) (h : TupAt H t xs) : TupAt H' t xs := by
  have n := h.ne hb
  obtain ⟨o, h1, h2⟩ := h
  exact ⟨o, h1, s _ _ n h2⟩
/-- all but what stands at l, as it was -/
theorem TupAt.upd_ {H : Hp} {l t : Addr} {xs ys : List V} {o' : HO} (h : TupAt H t xs) (hl : H l = some (.lst ys)) : TupAt (upd H l o') t xs := by
  obtain ⟨o, h1, h2⟩ := h
  exact ⟨o, h1, (upd_ne (ne_of h2 hl (fun z => nomatch z))).trans h2⟩
theorem cutV_whole {xs : List V} {lo hi : Option Int} (h : HT.sIx xs.length 0 lo = 0 ∧ HT.sIx xs.length xs.length hi = xs.length) : cutV xs lo hi = xs := by
  unfold cutV
  rw [h.1, h.2, List.drop_zero, Nat.sub_zero, List.take_of_length_le (Nat.le_refl _)]
section
variable {X : Cx}
theorem laid_tup {pins : List (Addr × Obj)} {σ : L2.St} {H : Hp} {s : Shared} {xs : List V} {its : List Value} (I : Inv X pins σ H s) (hz : xs.length ≤ sizeLine) (r : Vals xs its) :
    Inv X pins σ (upd H s.heap.objs.size (.frz { cls := .type "tuple", data := .seq its.toArray } (.tup xs))) { s with heap := s.heap.push { cls := .type "tuple", data := .seq its.toArray } } :=
  I.laid (t' := s.toks) (fun b ob q => Heap.get?_push_of_some _ q) (Nat.le_refl _) ⟨Heap.get?_push_size _ rfl, hz, its, r, IsTup.new _ _⟩
def tTupF (t : TA) : TE := fun σ H Q => t σ H fun xs H1 => xs.length ≤ sizeLine ∧ ∀ p H', Same H1 H' → H1 p = none → TupAt H' p xs → Q (.ref p) H'
theorem pe_tupF {es : List Expr} {t : TA} {pos : Pos} {x1} (h : PA X es t) : PE X (.Tuple es x1 pos) (tTupF t) := by
  refine ⟨fun pins s σ H Q I hq => ?_⟩
  refine wpAny_Tuple_spliced (thn (h.run pos pins s σ H _ I hq) fun us s1 ⟨xs, H1, I1, r, z, q⟩ => ⟨by rw [← r.length]; exact z, ?_⟩)
  have hf : H1 s1.heap.objs.size = none := I1.hok.fresh (Nat.le_refl _)
  exact ⟨.ref s1.heap.objs.size, _, laid_tup I1 z r, rfl, q _ _ (same_upd hf) hf ⟨_, rfl, upd_same⟩⟩
theorem call_tupleF : CallR X (.type "tuple") (fun xs H Q => ∃ p ys, xs = [.ref p] ∧ ((SqL X.K H p ys ∧ ∀ l H', Same H H' → H l = none → TupAt H' l ys → Q (.ref l) H') ∨ (SqT X.K H p ys ∧ Q (.ref p) H))) := by
  intro pins s σ H xs us Q I r h
  obtain ⟨p, ys, rfl, h⟩ := h
  obtain ⟨u, rfl, rx⟩ := vals1 r
  cases rx
  rcases h with ⟨hq, q⟩ | ⟨hq, q⟩
  · obtain ⟨its, r', pl, hz⟩ := I.list hq
    have hlen := r'.length
    refine call_tuple_list pl.isList (fun h' kp => ?_) (by simp only [List.size_toArray] <;> omega)
    have I1 : Inv X pins σ H { s with heap := h' } := I.kept (t' := s.toks) kp
    have hf := I1.hok.fresh (Nat.le_refl _)
    exact ⟨.ref h'.objs.size, _, laid_tup I1 hz r', rfl, q _ _ (same_upd hf) hf ⟨_, rfl, upd_same⟩⟩
  · obtain ⟨its, r', pl, hz⟩ := I.tuple hq
    exact call_tuple_same pl ⟨.ref p, H, I, rfl, q⟩
def rSlM : V → Option Int → Option Int → Hp → VK → Prop := fun x lo hi H Q => ∃ a xs, x = .ref a ∧ TupAt H a xs ∧ ∀ t H', Same H H' → TupAt H' t (cutV xs lo hi) → Q (.ref t) H'
theorem sl_tupM : SlR X rSlM := by
  intro pins s σ H x v vl vu lo hi sl Q I rx hs pl pu h
  obtain ⟨a, xs, rfl, ha, q⟩ := h
  by_cases hw : HT.sIx xs.length 0 lo = 0 ∧ HT.sIx xs.length xs.length hi = xs.length
  · exact sl_tupA pins s σ H _ v vl vu lo hi sl Q I rx hs pl pu ⟨a, xs, rfl, ha.sq, fun _ => q a H (Same.refl H) (by rw [cutV_whole hw]; exact ha), fun z => absurd hw z⟩
  · cases rx
    obtain ⟨its, r, ht, hz⟩ := I.tuple (ha.sq (K := X.K))
    have hlen : its.toArray.size = xs.length := by rw [List.size_toArray]; exact r.length.symm
    refine ⟨"tuple", _, PyProof.Rows.slot_tuple_getitem.lookup, ht.typeIs, ?_⟩
    refine HT.getItem_tuple_cut ht hs pl pu (by rw [hlen]; exact hw) ?_ (by rw [hlen]; exact hz)
    rw [hlen]
    have hf : H s.heap.objs.size = none := I.hok.fresh (Nat.le_refl _)
    exact ⟨.ref s.heap.objs.size, _, laid_tup (xs := cutV xs lo hi) I (Nat.le_trans (cutV_length xs lo hi) hz) ((r.drop (HT.sIx xs.length 0 lo)).take (HT.sIx xs.length xs.length hi - HT.sIx xs.length 0 lo)), rfl, q _ _ (same_upd hf) ⟨_, rfl, upd_same⟩⟩
def rCatM : R2 := fun x y H Q => ∃ a b xs ys, x = .ref a ∧ y = .ref b ∧ TupAt H a xs ∧ TupAt H b ys ∧ xs.length + ys.length ≤ sizeLine ∧ ∀ t H', Same H H' → TupAt H' t (xs ++ ys) → Q (.ref t) H'
theorem op_catM : OpR X (binaryOp .Add) rCatM := by
  intro pins s σ H x y v u Q I rx ry h
  obtain ⟨a, b, xs, ys, rfl, rfl, ha, hb, hz, q⟩ := h
  cases rx
  cases ry
  obtain ⟨its, r1, p1, _⟩ := I.tuple (ha.sq (K := X.K))
  obtain ⟨its2, r2, p2, _⟩ := I.tuple (hb.sq (K := X.K))
  by_cases hx : xs = []
  · subst hx
    cases r1
    exact cat_tup0 p1 p2 ⟨.ref b, H, I, rfl, q b H (Same.refl H) hb⟩
  · refine HT.cat_tup p1 p2 (fun z => hx (r1.nil_iff.mp z)) (fun z => ⟨.ref a, H, I, rfl, q a H (Same.refl H) ?_⟩) (fun z => ?_) (by rw [← r1.length, ← r2.length]; exact hz)
    · rw [r2.nil_iff.mp z, List.append_nil]
      exact ha
    · have hf : H s.heap.objs.size = none := I.hok.fresh (Nat.le_refl _)
      exact ⟨.ref s.heap.objs.size, _, laid_tup (xs := xs ++ ys) I (by rw [List.length_append]; exact hz) (r1.append r2), rfl, q _ _ (same_upd hf) ⟨_, rfl, upd_same⟩⟩
/-- a list of texts != [] -/
def rNeNil : R2 := fun x y H Q => ∃ (a b : Addr) (ys : List Str), x = .ref a ∧ y = .ref b ∧ H a = some (.lst (ys.map V.str)) ∧ H b = some (.lst []) ∧ Goods ys ∧ Q (.bl (!decide (ys = []))) H
theorem op_neNil (hu : X.A.units + 64 < cLine) : OpR X (compareOp .NotEq) rNeNil := by
  intro pins s σ H x y v u Q I rx ry h
  obtain ⟨a, b, ys, rfl, rfl, ha, hb, hg, q⟩ := h
  refine op_neD hu pins s σ H _ _ v u Q I rx ry ⟨_, _, dp_list ha, dp_list (xs := []) hb, sh_list hg, sh_list (xs := []) (fun _ h => nomatch h), ?_⟩
  have e : PyData.eqv (.list (ys.map .str)) (.list (([] : List Str).map .str)) = decide (ys = []) := by
    rw [PyData.eqv, eqv_strs]
  rw [e]
  exact q
/-- two tuples of texts -/
def rEqT : R2 := fun x y H Q => ∃ (a b : Addr) (xs ys : List Str), x = .ref a ∧ y = .ref b ∧ TupAt H a (xs.map V.str) ∧ TupAt H b (ys.map V.str) ∧ Goods xs ∧ Goods ys ∧ Q (.bl (decide (xs = ys))) H
theorem op_eqT (hu : X.A.units + 64 < cLine) : OpR X (compareOp .Eq) rEqT := by
  intro pins s σ H x y v u Q I rx ry h
  obtain ⟨a, b, xs, ys, rfl, rfl, ha, hb, g1, g2, q⟩ := h
  refine op_eqD hu pins s σ H _ _ v u Q I rx ry ⟨_, _, .tup ha.sq (dp_strs xs), .tup hb.sq (dp_strs ys), sh_tuple g1, sh_tuple g2, ?_⟩
  have e : PyData.eqv (.tuple (xs.map .str)) (.tuple (ys.map .str)) = decide (xs = ys) := by
    rw [PyData.eqv, eqv_strs]
  rw [e]
  exact q
end

/-! ### a row: a tuple or a list of names -/
def RowAt (H : Hp) (a : Addr) (row : List Str) : Prop := TupAt H a (row.map V.str) ∨ H a = some (.lst (row.map V.str))
theorem RowAt.same {H H' : Hp} {a : Addr} {row : List Str} (s : Same H H') (h : RowAt H a row) : RowAt H' a row := h.elim (fun e => .inl (e.same s)) (fun e => .inr (s _ _ e))

/-! ### where one comes to -/
def lastP {α : Type} (p : α → Bool) : List α → Option Nat
  | [] => none
  | x :: r => match lastP p r with
    | some k => some (k + 1)
    | none => if p x then some 0 else none
theorem lastP_app {α : Type} (p : α → Bool) (x : α) : ∀ l : List α, lastP p (l ++ [x]) = if p x then some l.length else lastP p l
  | [] => by simp [lastP]
  | y :: l => by
    show (match lastP p (l ++ [x]) with | some k => some (k + 1) | none => if p y then some 0 else none) = _
    rw [lastP_app p x l]
    by_cases h : p x = true
    · rw [if_pos h, if_pos h]
      rfl
    · rw [if_neg h, if_neg h]
      rfl
theorem lastP_take {α : Type} (p : α → Bool) {xs : List α} {i : Nat} {x : α} (h : xs[i]? = some x) : lastP p (xs.take (i + 1)) = if p x then some i else lastP p (xs.take i) := by
  have hi : i < xs.length := (List.getElem?_eq_some_iff.mp h).1
  rw [List.take_add_one, h]
  show lastP p (xs.take i ++ [x]) = _
  rw [lastP_app, List.length_take, Nat.min_eq_left (Nat.le_of_lt hi)]
theorem lastP_some {α : Type} {p : α → Bool} : ∀ {l : List α} {k : Nat}, lastP p l = some k → ∃ x, l[k]? = some x ∧ p x = true ∧ ∀ j y, k < j → l[j]? = some y → p y = false
  | [], k, h => by cases h
  | x :: r, k, h => by
    unfold lastP at h
    cases e : lastP p r with
    | some j =>
      rw [e] at h
      have hk : j + 1 = k := Option.some.inj h
      subst hk
      obtain ⟨y, h1, h2, h3⟩ := lastP_some e
      refine ⟨y, h1, h2, fun j' z hj hz => ?_⟩
      match j', hj, hz with
      | j' + 1, hj, hz => exact h3 j' z (by omega) hz
    | none =>
      rw [e] at h
      by_cases hx : p x = true
      · simp only [hx, if_true] at h
        have hk : 0 = k := Option.some.inj h
        subst hk
        refine ⟨x, rfl, hx, fun j' z hj hz => ?_⟩
        match j', hj, hz with
        | j' + 1, hj, hz => exact lastP_none e j' z hz
      · simp only [hx] at h
        cases h
where lastP_none {α : Type} {p : α → Bool} : ∀ {l : List α}, lastP p l = none → ∀ (j : Nat) (y : α), l[j]? = some y → p y = false
  | [], _, j, y, h => by simp at h
  | x :: r, e, j, y, h => by
    unfold lastP at e
    cases e2 : lastP p r with
    | some k => rw [e2] at e; cases e
    | none =>
      rw [e2] at e
      by_cases hx : p x = true
      · simp only [hx, if_true] at e
        cases e
      · match j, h with
        | 0, h =>
          have : x = y := Option.some.inj h
          subst this
          exact Bool.eq_false_iff.mpr hx
        | j + 1, h => exact lastP_none e2 j y h
theorem lastP_nil {α : Type} {p : α → Bool} : ∀ {l : List α}, lastP p l = none ↔ l.filter p = []
  | [] => by simp [lastP]
  | x :: r => by
    have ih := lastP_nil (p := p) (l := r)
    unfold lastP
    cases e : lastP p r with
    | some k =>
      have : ¬ r.filter p = [] := fun z => by rw [ih.mpr z] at e; cases e
      rw [List.filter_cons]
      by_cases hx : p x = true
      · simp [hx]
      · simp [hx, this]
    | none =>
      have z := ih.mp e
      rw [List.filter_cons, z]
      by_cases hx : p x = true
      · simp [hx]
      · simp [hx]
theorem Goods.perm {xs ys : List Str} (h : Goods xs) (p : ys.Perm xs) : Goods ys := fun x hx => h x (p.mem_iff.mp hx)
theorem Goods.at_ {xs : List Str} {i : Nat} {x : Str} (h : Goods xs) (e : xs[i]? = some x) : Good x := h x (List.mem_of_getElem? e)
theorem Goods.filter {xs : List Str} {p : Str → Bool} (h : Goods xs) : Goods (xs.filter p) := fun x hx => h x (List.mem_filter.mp hx).1
def spotOf (ps : List (Str × Str)) (stand : List Str) (x : Str) : Nat := match lastP (frd ps x) stand with
  | some k => k + 1
  | none => stand.length
def comeTo (ps : List (Str × Str)) (stand : List Str) (x : Str) : List Str := stand.take (spotOf ps stand x) ++ [x] ++ stand.drop (spotOf ps stand x)
def standOf (ps : List (Str × Str)) (order : List Str) : List Str := order.foldl (comeTo ps) []
theorem come_perm (ps : List (Str × Str)) (stand : List Str) (x : Str) : (comeTo ps stand x).Perm (x :: stand) := ins_perm _ _ _
theorem standOf_app (ps : List (Str × Str)) (o : List Str) (x : Str) : standOf ps (o ++ [x]) = comeTo ps (standOf ps o) x := by
  unfold standOf
  rw [List.foldl_append]
  rfl
theorem stand_perm_from (ps : List (Str × Str)) : ∀ (o stand : List Str), (o.foldl (comeTo ps) stand).Perm (o ++ stand)
  | [], stand => List.Perm.refl _
  | x :: o, stand => by
    show (o.foldl (comeTo ps) (comeTo ps stand x)).Perm _
    refine (stand_perm_from ps o _).trans ?_
    refine ((come_perm ps stand x).append_left o).trans ?_
    exact List.perm_middle
theorem stand_perm (ps : List (Str × Str)) (o : List Str) : (standOf ps o).Perm o := by
  have h := stand_perm_from ps o []
  rw [List.append_nil] at h
  exact h

/-! ### promises -/
def spAre : Sp := fun vs H Q _ => ∃ (a : Addr) (ps : List (Str × Str)) (x y : Str), vs = [.ref a, .str x, .str y] ∧ PalsAt H a ps ∧ PalsOk ps ∧ Good x ∧ Good y ∧ ∀ H', Same H H' → Q (.bl (frd ps x y)) H'
def spCome : Sp := fun vs H Q _ => ∃ (a t : Addr) (ps : List (Str × Str)) (stand : List Str) (x : Str), vs = [.ref a, .ref t, .str x] ∧ PalsAt H a ps ∧ PalsOk ps ∧ TupAt H t (stand.map V.str) ∧ Goods stand ∧ Good x ∧ stand.length ≤ 100 ∧
  ∀ t' H', Same H H' → TupAt H' t' ((comeTo ps stand x).map V.str) → Q (.ref t') H'
def spStandOf : Sp := fun vs H Q _ => ∃ (a l : Addr) (ps : List (Str × Str)) (some_ : List Str), vs = [.ref a, .ref l] ∧ PalsAt H a ps ∧ PalsOk ps ∧ H l = some (.lst (some_.map V.str)) ∧ Goods some_ ∧ some_.length ≤ 100 ∧
  ∀ t' H', Same H H' → TupAt H' t' ((standOf ps some_).map V.str) → Q (.ref t') H'
def spStrewn : Sp := fun vs H Q _ => ∃ (b l : Addr) (pool : List Str), vs = [.ref b, .ref l] ∧ IsBox H b ∧ RowAt H l pool ∧ pool.length ≤ 100 ∧
  ∀ (p : Addr) (order : List Str) (H' : Hp), Oth b H H' → IsBox H' b → H p = none → H' p = some (.lst (order.map V.str)) → order.Perm pool → Q (.ref p) H'
def spThinned : Sp := fun vs H Q _ => ∃ (t : Addr) (stand : List Str) (x : Str), vs = [.ref t, .str x] ∧ TupAt H t (stand.map V.str) ∧ stand.length ≤ 100 ∧
  ∀ t' H', Same H H' → TupAt H' t' ((stand.filter fun y => !decide (y = x)).map V.str) → Q (.ref t') H'
def spFine : Sp := fun vs H Q _ => ∃ (b a l : Addr) (ps : List (Str × Str)) (pool : List Str), vs = [.ref b, .ref a, .ref l] ∧ IsBox H b ∧ PalsAt H a ps ∧ PalsOk ps ∧ H l = some (.lst (pool.map V.str)) ∧ Goods pool ∧ pool.length ≤ 100 ∧
  ∀ (t : Addr) (order : List Str) (H' : Hp), Oth b H H' → IsBox H' b → TupAt H' t ((standOf ps order).map V.str) → order.Perm pool → Q (.ref t) H'
def spAny : Sp := fun vs H Q _ => ∃ (b a l : Addr) (ps : List (Str × Str)) (pool : List Str), vs = [.ref b, .ref a, .ref l] ∧ IsBox H b ∧ PalsAt H a ps ∧ PalsOk ps ∧ H l = some (.lst (pool.map V.str)) ∧ Goods pool ∧ pool.Nodup ∧ pool.length ≤ 100 ∧
  ∀ (t : Addr) (stand : List Str) (H' : Hp), Oth b H H' → IsBox H' b → TupAt H' t (stand.map V.str) → stand.Perm pool → Q (.ref t) H'
end Lk
set_option maxRecDepth 100000
set_option maxHeartbeats 4000000
namespace Lk
open PySem PySem.Spec PyProof.Rows L2
/-- a tuple that is tracked, either way -/
def TupX (H : Hp) (a : Addr) (xs : List V) : Prop := H a = some (.tup xs) ∨ TupAt H a xs
theorem TupX.same {H H' : Hp} {a : Addr} {xs : List V} (s : Same H H') (h : TupX H a xs) : TupX H' a xs := h.elim (fun e => .inl (s _ _ e)) (fun e => .inr (e.same s))
theorem TupX.sq {K : PySem.W.Frag} {H : Hp} {a : Addr} {xs : List V} (h : TupX H a xs) : SqT K H a xs := h.elim (fun e => .inl (.inl e)) (fun e => e.sq)
theorem TupX.ty {K : PySem.W.Frag} {H : Hp} {a : Addr} {xs : List V} (h : TupX H a xs) : TyX K H (.ref a) (.type "tuple") := h.elim (fun e => .base (.tup e)) (fun ⟨_, _, e⟩ => .fTuple e)
/-- two values that _law_same tells to be the same: scalars, lists, tuples, at most n deep -/
def Alk (H : Hp) : Nat → V → V → Prop
  | 0, _, _ => False
  | n + 1, x, y => ((x = .non ∨ (∃ b, x = .bl b) ∨ (∃ i, x = .int i) ∨ ∃ z, x = .str z) ∧ y = x) ∨
    (∃ a b xs ys, x = .ref a ∧ y = .ref b ∧ H a = some (.lst xs) ∧ H b = some (.lst ys) ∧ xs.length = ys.length ∧ xs.length ≤ 1000 ∧ ∀ (i : Nat) (u v : V), xs[i]? = some u → ys[i]? = some v → Alk H n u v) ∨
    (∃ a b xs ys, x = .ref a ∧ y = .ref b ∧ TupX H a xs ∧ TupX H b ys ∧ xs.length = ys.length ∧ xs.length ≤ 1000 ∧ ∀ (i : Nat) (u v : V), xs[i]? = some u → ys[i]? = some v → Alk H n u v)
theorem Alk.same {H H' : Hp} (s : Same H H') : ∀ {n : Nat} {x y : V}, Alk H n x y → Alk H' n x y
  | 0, _, _, h => h.elim
  | n + 1, x, y, h => by
    rcases h with h | ⟨a, b, xs, ys, e1, e2, h1, h2, hl, hz, h⟩ | ⟨a, b, xs, ys, e1, e2, h1, h2, hl, hz, h⟩
    · exact .inl h
    · exact .inr (.inl ⟨a, b, xs, ys, e1, e2, s _ _ h1, s _ _ h2, hl, hz, fun i u v hu hv => Alk.same s (h i u v hu hv)⟩)
    · exact .inr (.inr ⟨a, b, xs, ys, e1, e2, h1.same s, h2.same s, hl, hz, fun i u v hu hv => Alk.same s (h i u v hu hv)⟩)
theorem walk_zipT {K : PySem.W.Frag} {a b : Addr} {xs ys : List V} {n : Nat} (hn : n = min xs.length ys.length) : Walk (RZ.ItzT K a b) n (fun H => SqT K H a xs ∧ SqT K H b ys) (YPair (fun i => xs[i]?) (fun i => ys[i]?)) := by
  subst hn
  refine ⟨fun i _ hi q => ?_, fun _ q => ⟨xs, ys, q.1, q.2, by omega⟩, fun i H v H' _ q y => ?_⟩
  · have h1 : i < xs.length := by omega
    have h2 : i < ys.length := by omega
    exact ⟨xs, ys, xs[i], ys[i], q.1, q.2, by simp [h1], by simp [h2]⟩
  · obtain ⟨T, x, z, h1, h2, h3, h4, h5⟩ := y
    exact ⟨T, x, z, h1, h2, h3, h4 xs q.1, h5 ys q.2⟩
end Lk
set_option maxRecDepth 100000
set_option maxHeartbeats 4000000
namespace Lk
open PySem PySem.Spec PyProof.Rows L2

/-! ### the dict of friends, either way about -/
def k2 (a b : Str) : List Key := [Sum.inr a, Sum.inr b]
theorem k2_inj {a b c d : Str} : k2 a b = k2 c d ↔ a = c ∧ b = d := by
  unfold k2
  simp
def KnAt (H : Hp) (d : Addr) (ps : List (Str × Str)) : Prop := ∃ kvs, H d = some (.dT kvs) ∧ ∀ a b, (valV kvs (k2 a b)).isSome = frd ps a b
theorem KnAt.same {H H' : Hp} {d : Addr} {ps : List (Str × Str)} (s : Same H H') (h : KnAt H d ps) : KnAt H' d ps := by
  obtain ⟨kvs, h1, h2⟩ := h
  exact ⟨kvs, s _ _ h1, h2⟩
theorem putK_len {kvs : List (List Key × V)} {k : List Key} {v : V} : (putK kvs k v).length ≤ kvs.length + 1 := by
  unfold putK
  split
  · rw [List.length_map]
    omega
  · rw [List.length_append]
    exact Nat.le_refl _
theorem frd_app (ps : List (Str × Str)) (p : Str × Str) (a b : Str) : frd (ps ++ [p]) a b = (frd ps a b || decide ((a, b) = p) || decide ((b, a) = p)) := by
  unfold frd
  by_cases h1 : (a, b) ∈ ps <;> by_cases h2 : (b, a) ∈ ps <;> by_cases h3 : (a, b) = p <;> by_cases h4 : (b, a) = p <;> simp [h1, h2, h3, h4]
theorem both_put {kvs : List (List Key × V)} {ps : List (Str × Str)} (h : ∀ a b, (valV kvs (k2 a b)).isSome = frd ps a b) (x y : Str) (u v : V) (a b : Str) :
    (valV (putK (putK kvs (k2 x y) u) (k2 y x) v) (k2 a b)).isSome = frd (ps ++ [(x, y)]) a b := by
  rw [valV_put, valV_put, frd_app, ← h a b]
  by_cases h1 : k2 a b = k2 y x
  · rw [if_pos h1]
    obtain ⟨e1, e2⟩ := k2_inj.mp h1
    subst e1 e2
    simp
  · rw [if_neg h1]
    have n1 : ¬ (b, a) = (x, y) := fun z => h1 (k2_inj.mpr ⟨(Prod.mk.inj z).2, (Prod.mk.inj z).1⟩)
    by_cases h2 : k2 a b = k2 x y
    · rw [if_pos h2]
      obtain ⟨e1, e2⟩ := k2_inj.mp h2
      subst e1 e2
      simp
    · rw [if_neg h2]
      have n2 : ¬ (a, b) = (x, y) := fun z => h2 (k2_inj.mpr ⟨(Prod.mk.inj z).1, (Prod.mk.inj z).2⟩)
      simp [n1, n2]

/-! ### places, words -/
def optW (c : Bool) (w : Str) : List Str := if c = true then [w] else []
def lfpV : Option Nat → V
  | none => .non
  | some k => .int k
theorem inV_strs (x : Str) (xs : List Str) : inV (.str x) (xs.map V.str) = decide (x ∈ xs) := by
  unfold inV
  rw [List.any_map]
  induction xs with
  | nil => rfl
  | cons y r ih =>
    rw [List.any_cons, ih]
    show ((y == x) || _) = _
    by_cases h : y = x
    · subst h
      simp
    · have h' : ¬ x = y := fun z => h z.symm
      simp [h, h']
theorem lastP_lt {α : Type} {p : α → Bool} {l : List α} {k : Nat} (h : lastP p l = some k) : k < l.length := by
  obtain ⟨x, hx, _⟩ := lastP_some h
  exact (List.getElem?_eq_some_iff.mp hx).1
def btw (i j : Nat) : Option Nat → Bool
  | none => false
  | some k => decide (k < j) && decide (j < i)
/-- the words by which one, at place i, bars other, at place j -/
def wordsOf (ps : List (Str × Str)) (row : List Str) (one other : Str) (i j : Nat) : List Str :=
  optW (decide (lastP (frd ps one) (row.take i) = none) && decide (i < j)) "behind" ++
  optW (btw i j (lastP (frd ps one) (row.take i))) "between" ++
  optW (decide (i < j) && frd ps one other) "friend"
/-! ### index -/
section
variable {X : Cx}
end
/-! ### promises of the program -/
def spBoth : Sp := fun vs H Q _ => ∃ (a : Addr) (ps : List (Str × Str)), vs = [.ref a] ∧ FrAt H a ps ∧ ps.length ≤ 1000 ∧ ∀ d H', Same H H' → H d = none → KnAt H' d ps → Q (.ref d) H'
def spLfp : Sp := fun vs H Q _ => ∃ (d r : Addr) (ps : List (Str × Str)) (row : List Str) (who : Str), vs = [.ref d, .ref r, .str who] ∧ KnAt H d ps ∧ RowAt H r row ∧ row.length ≤ 100 ∧
  ∀ H', Same H H' → Q (lfpV (lastP (frd ps who) row)) H'
/-! ### .. and of the law's own words -/
/-! ### calls by keywords that stand in the parameters' order turned about -/
/-- no positional ones, the keywords turned about -/
def gRev {α : Type} : List α → List α → List α
  | [], ws => ws.reverse
  | _ :: _, _ => []
end Lk
set_option maxRecDepth 100000
set_option maxHeartbeats 4000000
namespace Lk
open PySem PySem.Spec PyProof.Rows L2

/-! ### who can have come last -/
theorem lastP_append {α : Type} (p : α → Bool) (b : List α) : ∀ a : List α, lastP p (a ++ b) = match lastP p b with | some k => some (a.length + k) | none => lastP p a
  | [] => by
    show lastP p b = _
    cases lastP p b with
    | none => rfl
    | some k => simp
  | x :: a => by
    have ih := lastP_append p b a
    show (match lastP p (a ++ b) with | some k => some (k + 1) | none => if p x then some 0 else none) = _
    rw [ih]
    cases lastP p b with
    | none => rfl
    | some k =>
      show some (a.length + k + 1) = some ((x :: a).length + k)
      rw [List.length_cons]
      congr 1
      omega
/-- the one at place i is loose -/
def looseB (ps : List (Str × Str)) (row : List Str) (i : Nat) (x : Str) : Bool := match lastP (frd ps x) row with
  | none => decide (i + 1 = row.length)
  | some k => decide (k + 1 = i)
theorem split_at {α : Type} {row : List α} {i : Nat} {x : α} (h : row[i]? = some x) : row = row.take i ++ x :: row.drop (i + 1) := by
  have hi : i < row.length := (List.getElem?_eq_some_iff.mp h).1
  have e := List.getElem?_eq_getElem hi
  rw [h] at e
  have e2 : x = row[i] := Option.some.inj e
  rw [e2, ← List.drop_eq_getElem_cons hi, List.take_append_drop]
theorem ins_eq {α : Type} {a b : List α} {x : α} {s : Nat} (hx : x ∉ a ++ b) (hs : s ≤ (a ++ b).length) (h : (a ++ b).take s ++ [x] ++ (a ++ b).drop s = a ++ x :: b) : s = a.length := by
  have e1 : ((a ++ b).take s ++ [x] ++ (a ++ b).drop s)[s]? = some x := by
    rw [List.append_assoc, List.getElem?_append_right (by rw [List.length_take]; omega), List.length_take, Nat.min_eq_left hs, Nat.sub_self]
    rfl
  rw [h] at e1
  by_cases h1 : s < a.length
  · rw [List.getElem?_append_left h1] at e1
    exact absurd (List.mem_append_left b (List.mem_of_getElem? e1)) hx
  · rw [List.getElem?_append_right (by omega)] at e1
    cases h2 : s - a.length with
    | zero => omega
    | succ m =>
      rw [h2, List.getElem?_cons_succ] at e1
      exact absurd (List.mem_append_right a (List.mem_of_getElem? e1)) hx
theorem loose_iff {ps : List (Str × Str)} {row : List Str} {i : Nat} {x : Str} (hd : row.Nodup) (h : row[i]? = some x) (irr : frd ps x x = false) :
    decide (comeTo ps (row.take i ++ row.drop (i + 1)) x = row) = looseB ps row i x := by
  have hi : i < row.length := (List.getElem?_eq_some_iff.mp h).1
  have sp := split_at h
  generalize ha : row.take i = a at sp
  generalize hb : row.drop (i + 1) = b at sp
  have la : a.length = i := by
    rw [← ha, List.length_take]
    omega
  have nx : x ∉ a ++ b := by
    rw [sp] at hd
    have q : (x :: (a ++ b)).Nodup := (List.perm_middle.nodup_iff).mp hd
    exact (List.nodup_cons.mp q).1
  have lr : row.length = a.length + b.length + 1 := by
    rw [sp, List.length_append, List.length_cons]
    omega
  have key : comeTo ps (a ++ b) x = row ↔ spotOf ps (a ++ b) x = i := by
    constructor
    · intro e
      rw [← la]
      refine ins_eq (s := spotOf ps (a ++ b) x) nx ?_ (e.trans sp)
      unfold spotOf
      split
      · rename_i k ek
        have := lastP_lt ek
        omega
      · exact Nat.le_refl _
    · intro e
      unfold comeTo
      rw [e, ← la, List.take_left' rfl, List.drop_left' rfl, List.append_assoc]
      exact sp.symm
  have e1 : lastP (frd ps x) (x :: b) = (lastP (frd ps x) b).map (· + 1) := by
    show (match lastP (frd ps x) b with | some k => some (k + 1) | none => if frd ps x x then some 0 else none) = _
    rw [irr]
    cases lastP (frd ps x) b <;> rfl
  have e2 : lastP (frd ps x) row = match lastP (frd ps x) (x :: b) with | some k => some (a.length + k) | none => lastP (frd ps x) a := by
    rw [← lastP_append, ← sp]
  have e3 := lastP_append (frd ps x) b a
  rw [e1] at e2
  have fin : (spotOf ps (a ++ b) x = i) ↔ looseB ps row i x = true := by
    unfold looseB spotOf
    rw [e2, e3]
    cases lastP (frd ps x) b with
    | some k =>
      show (a.length + k + 1 = i) ↔ decide (a.length + (k + 1) + 1 = i) = true
      rw [decide_eq_true_eq]
      omega
    | none =>
      cases lastP (frd ps x) a with
      | some k =>
        show (k + 1 = i) ↔ decide (k + 1 = i) = true
        rw [decide_eq_true_eq]
      | none =>
        show ((a ++ b).length = i) ↔ decide (i + 1 = row.length) = true
        rw [decide_eq_true_eq, List.length_append]
        omega
  cases c : looseB ps row i x with
  | true => exact decide_eq_true (key.mpr (fin.mpr c))
  | false => exact decide_eq_false (fun z => by rw [fin.mp (key.mp z)] at c; cases c)
/-- all that are loose, in the row's order -/
def looseL (ps : List (Str × Str)) (row : List Str) : List Str := (row.zipIdx.filter fun p => looseB ps row p.2 p.1).map (·.1)
theorem looseL_mem {ps : List (Str × Str)} {row : List Str} {i : Nat} {x : Str} (hd : row.Nodup) (h : row[i]? = some x) : decide (x ∈ looseL ps row) = looseB ps row i x := by
  unfold looseL
  have e : (x ∈ (row.zipIdx.filter fun p => looseB ps row p.2 p.1).map (·.1)) ↔ looseB ps row i x = true := by
    constructor
    · intro m
      obtain ⟨⟨y, j⟩, hp, rfl⟩ := List.mem_map.mp m
      obtain ⟨h1, h2⟩ := List.mem_filter.mp hp
      have h3 : row[j]? = some y := by
        have q := List.mem_zipIdx_iff_getElem?.mp h1
        exact q
      have ej := nd_ix hd h3 h
      rw [← ej]
      exact h2
    · intro c
      refine List.mem_map.mpr ⟨(x, i), List.mem_filter.mpr ⟨?_, c⟩, rfl⟩
      exact List.mem_zipIdx_iff_getElem?.mpr h
  cases c : looseB ps row i x with
  | true => exact decide_eq_true (e.mpr c)
  | false => exact decide_eq_false (fun z => by rw [e.mp z] at c; cases c)

/-! ### promises -/
end Lk
set_option maxRecDepth 100000
set_option maxHeartbeats 4000000
namespace Lk
open PySem PySem.Spec PyProof.Rows L2

/-! ### whichever go, the same are left -/
def LooseP (ps : List (Str × Str)) (a b : List Str) (x : Str) : Prop :=
  (∀ y ∈ b, frd ps x y = false) ∧ ((∃ a' f, a = a' ++ [f] ∧ frd ps x f = true) ∨ ((∀ y ∈ a, frd ps x y = false) ∧ b = []))
theorem lastP_no {α : Type} {p : α → Bool} {l : List α} : lastP p l = none ↔ ∀ y ∈ l, p y = false := by
  rw [lastP_nil]
  constructor
  · intro h y hy
    cases c : p y with
    | false => rfl
    | true =>
      have m : y ∈ l.filter p := List.mem_filter.mpr ⟨hy, c⟩
      rw [h] at m
      cases m
  · intro h
    refine List.filter_eq_nil_iff.mpr fun y hy => ?_
    rw [h y hy]
    exact Bool.false_ne_true
theorem lastP_end {α : Type} {p : α → Bool} {l : List α} {k : Nat} (h : lastP p l = some k) (e : k + 1 = l.length) : ∃ l' f, l = l' ++ [f] ∧ p f = true := by
  obtain ⟨f, h1, h2, _⟩ := lastP_some h
  refine ⟨l.take k, f, ?_, h2⟩
  have q := split_at h1
  rw [List.drop_eq_nil_of_le (by omega)] at q
  exact q
theorem looseB_iff {ps : List (Str × Str)} {row a b : List Str} {x : Str} (h : row = a ++ x :: b) (irr : frd ps x x = false) : looseB ps row a.length x = true ↔ LooseP ps a b x := by
  have e1 : lastP (frd ps x) (x :: b) = (lastP (frd ps x) b).map (· + 1) := by
    show (match lastP (frd ps x) b with | some k => some (k + 1) | none => if frd ps x x then some 0 else none) = _
    rw [irr]
    cases lastP (frd ps x) b <;> rfl
  have e2 : lastP (frd ps x) row = match lastP (frd ps x) (x :: b) with | some k => some (a.length + k) | none => lastP (frd ps x) a := by
    rw [h]
    exact lastP_append (frd ps x) (x :: b) a
  rw [e1] at e2
  have lr : row.length = a.length + b.length + 1 := by
    rw [h, List.length_append, List.length_cons]
    omega
  unfold looseB LooseP
  rw [e2]
  cases eb : lastP (frd ps x) b with
  | some k =>
    obtain ⟨f, h1, h2, _⟩ := lastP_some eb
    show decide (a.length + (k + 1) + 1 = a.length) = true ↔ _
    rw [decide_eq_true_eq]
    constructor
    · intro z
      omega
    · rintro ⟨z, _⟩
      rw [z f (List.mem_of_getElem? h1)] at h2
      cases h2
  | none =>
    have nb := lastP_no.mp eb
    cases ea : lastP (frd ps x) a with
    | some k =>
      show decide (k + 1 = a.length) = true ↔ _
      rw [decide_eq_true_eq]
      obtain ⟨f, h1, h2, h3⟩ := lastP_some ea
      constructor
      · intro z
        exact ⟨nb, .inl (lastP_end ea z)⟩
      · rintro ⟨_, ⟨a', f', rfl, z⟩ | ⟨z, _⟩⟩
        · rw [List.length_append]
          show k + 1 = a'.length + 1
          have hk := (List.getElem?_eq_some_iff.mp h1).1
          rw [List.length_append] at hk
          have hk' : k < a'.length + 1 := hk
          by_cases c : k < a'.length
          · have q := h3 a'.length f' c (by simp)
            rw [q] at z
            cases z
          · omega
        · rw [z f (List.mem_of_getElem? h1)] at h2
          cases h2
    | none =>
      have na := lastP_no.mp ea
      show decide (a.length + 1 = row.length) = true ↔ _
      rw [decide_eq_true_eq]
      constructor
      · intro z
        exact ⟨nb, .inr ⟨na, List.length_eq_zero_iff.mp (by omega)⟩⟩
      · rintro ⟨_, ⟨a', f', rfl, z⟩ | ⟨_, z⟩⟩
        · rw [na f' (by simp)] at z
          cases z
        · rw [z] at lr
          simpa using lr.symm
def LooseIn (ps : List (Str × Str)) (row : List Str) (x : Str) : Prop := ∃ a b, row = a ++ x :: b ∧ LooseP ps a b x
def Irr (ps : List (Str × Str)) : Prop := ∀ x, frd ps x x = false
def rem (row : List Str) (x : Str) : List Str := row.filter fun y => !decide (y = x)
theorem rem_split {a b : List Str} {x : Str} (hd : (a ++ x :: b).Nodup) : rem (a ++ x :: b) x = a ++ b := by
  have q : (x :: (a ++ b)).Nodup := (List.perm_middle.nodup_iff).mp hd
  have nx := (List.nodup_cons.mp q).1
  unfold rem
  rw [List.filter_append, List.filter_cons]
  have e1 : a.filter (fun y => !decide (y = x)) = a := List.filter_eq_self.mpr fun y hy => by
    have : ¬ y = x := fun z => nx (List.mem_append_left b (z ▸ hy))
    simp [this]
  have e2 : b.filter (fun y => !decide (y = x)) = b := List.filter_eq_self.mpr fun y hy => by
    have : ¬ y = x := fun z => nx (List.mem_append_right a (z ▸ hy))
    simp [this]
  rw [e1, e2]
  simp
theorem rem_nodup {row : List Str} {x : Str} (hd : row.Nodup) : (rem row x).Nodup := hd.filter _
theorem rem_comm (row : List Str) (x y : Str) : rem (rem row x) y = rem (rem row y) x := by
  unfold rem
  rw [List.filter_filter, List.filter_filter]
  refine List.filter_congr fun z _ => ?_
  exact Bool.and_comm _ _
theorem rem_len {row : List Str} {x : Str} (hd : row.Nodup) (hx : x ∈ row) : (rem row x).length + 1 = row.length := by
  obtain ⟨a, b, rfl⟩ := List.append_of_mem hx
  rw [rem_split hd, List.length_append, List.length_append, List.length_cons]
  omega
theorem LooseIn.mem {ps : List (Str × Str)} {row : List Str} {x : Str} (h : LooseIn ps row x) : x ∈ row := by
  obtain ⟨a, b, rfl, _⟩ := h
  simp
theorem split_uniq {row a b c d : List Str} {x : Str} (hd : row.Nodup) (h1 : row = a ++ x :: b) (h2 : row = c ++ x :: d) : a = c ∧ b = d := by
  have e1 : row[a.length]? = some x := by rw [h1]; simp
  have e2 : row[c.length]? = some x := by rw [h2]; simp
  have l := nd_ix hd e1 e2
  have e := h1.symm.trans h2
  have q := List.append_inj e l
  exact ⟨q.1, (List.cons.inj q.2).2⟩
theorem looseL_iff {ps : List (Str × Str)} {row : List Str} {x : Str} (irr : Irr ps) (hd : row.Nodup) : x ∈ looseL ps row ↔ LooseIn ps row x := by
  constructor
  · intro h
    have hx : x ∈ row := by
      unfold looseL at h
      obtain ⟨⟨y, j⟩, hp, rfl⟩ := List.mem_map.mp h
      exact List.mem_of_getElem? (List.mem_zipIdx_iff_getElem?.mp (List.mem_filter.mp hp).1)
    obtain ⟨a, b, e⟩ := List.append_of_mem hx
    have ei : row[a.length]? = some x := by rw [e]; simp
    have q := looseL_mem (ps := ps) hd ei
    rw [decide_eq_true h] at q
    exact ⟨a, b, e, (looseB_iff e (irr x)).mp q.symm⟩
  · rintro ⟨a, b, e, h⟩
    have ei : row[a.length]? = some x := by rw [e]; simp
    have q := looseL_mem (ps := ps) hd ei
    rw [(looseB_iff e (irr x)).mpr h] at q
    exact of_decide_eq_true q
/-- the lemma: of two that are loose each is so without the other -/
theorem diamond {ps : List (Str × Str)} {row : List Str} {x y : Str} (hd : row.Nodup) (hx : LooseIn ps row x) (hy : LooseIn ps row y) (ne : x ≠ y) : LooseIn ps (rem row y) x := by
  obtain ⟨a, b, e, h1, h2⟩ := hx
  have my : y ∈ row := hy.mem
  obtain ⟨c, d, e', g1, g2⟩ := hy
  have my' : y ∈ a ∨ y ∈ b := by
    rw [e] at my
    rcases List.mem_append.mp my with z | z
    · exact .inl z
    · rcases List.mem_cons.mp z with z | z
      · exact absurd z.symm ne
      · exact .inr z
  rcases my' with m | m
  · obtain ⟨a1, a2, rfl⟩ := List.append_of_mem m
    have e2 : row = a1 ++ y :: (a2 ++ x :: b) := by rw [e]; simp
    have er : rem row y = (a1 ++ a2) ++ x :: b := by
      rw [e2, rem_split (by rw [← e2]; exact hd)]
      simp
    refine ⟨a1 ++ a2, b, er, h1, ?_⟩
    obtain ⟨_, u2⟩ := split_uniq hd e2 e'
    rcases h2 with ⟨a', f, ea, hf⟩ | ⟨na, nb⟩
    · rcases List.eq_nil_or_concat a2 with z | ⟨l, g, z⟩
      · subst z
        have q := List.append_inj' ea (by rfl)
        have ey : y = f := (List.cons.inj q.2).1
        have bad := g1 x (by rw [← u2]; simp)
        rw [frd_comm, ey, hf] at bad
        cases bad
      · rw [List.concat_eq_append] at z
        subst z
        have ea' : (a1 ++ y :: l) ++ [g] = a' ++ [f] := by rw [← ea]; simp
        have q := List.append_inj' ea' rfl
        have eg : g = f := (List.cons.inj q.2).1
        exact .inl ⟨a1 ++ l, g, by simp, by rw [eg]; exact hf⟩
    · exact .inr ⟨fun z hz => na z (by
        rcases List.mem_append.mp hz with w | w
        · exact List.mem_append_left _ w
        · exact List.mem_append_right _ (List.mem_cons_of_mem _ w)), nb⟩
  · obtain ⟨b1, b2, rfl⟩ := List.append_of_mem m
    have e2 : row = (a ++ x :: b1) ++ y :: b2 := by rw [e]; simp
    have er : rem row y = a ++ x :: (b1 ++ b2) := by
      rw [e2, rem_split (by rw [← e2]; exact hd)]
      simp
    refine ⟨a, b1 ++ b2, er, fun z hz => h1 z (by
        rcases List.mem_append.mp hz with w | w
        · exact List.mem_append_left _ w
        · exact List.mem_append_right _ (List.mem_cons_of_mem _ w)), ?_⟩
    rcases h2 with h | ⟨_, z⟩
    · exact .inl h
    · exact absurd z (by simp)
/-- one behind the other, loose ones that needn't stay go -/
inductive Red (ps : List (Str × Str)) (stay : List Str) : List Str → List Str → Prop where
  | done (row : List Str) : Red ps stay row row
  | go {row n : List Str} (x : Str) (h : LooseIn ps row x) (hs : x ∉ stay) (t : Red ps stay (rem row x) n) : Red ps stay row n
def Nf (ps : List (Str × Str)) (stay row : List Str) : Prop := ∀ x, LooseIn ps row x → x ∈ stay
theorem Red.swap {ps : List (Str × Str)} {stay row n : List Str} (h : Red ps stay row n) : row.Nodup → Nf ps stay n → ∀ x, LooseIn ps row x → x ∉ stay → Red ps stay (rem row x) n := by
  induction h with
  | done row => intro _ hn x hx hs; exact absurd (hn x hx) hs
  | @go row n y hy ys t ih =>
    intro hd hn x hx hs
    by_cases e : x = y
    · subst e
      exact t
    · have h1 := diamond hd hx hy e
      have h2 := diamond hd hy hx (fun z => e z.symm)
      have q := ih (rem_nodup hd) hn x h1 hs
      rw [rem_comm] at q
      exact .go y h2 ys q
theorem Red.trans {ps : List (Str × Str)} {stay row n m : List Str} (h : Red ps stay row n) : Red ps stay n m → Red ps stay row m := by
  induction h with
  | done row => exact fun q => q
  | go x hx hs _ ih => exact fun q => .go x hx hs (ih q)
/-- who comes is loose -/
theorem come_loose (ps : List (Str × Str)) (stand : List Str) (x : Str) : LooseIn ps (comeTo ps stand x) x := by
  refine ⟨stand.take (spotOf ps stand x), stand.drop (spotOf ps stand x), by unfold comeTo; simp, ?_, ?_⟩
  · intro y hy
    unfold spotOf at hy
    cases e : lastP (frd ps x) stand with
    | none =>
      rw [e] at hy
      exact lastP_no.mp e y (List.mem_of_mem_drop hy)
    | some k =>
      rw [e] at hy
      obtain ⟨f, h1, h2, h3⟩ := lastP_some e
      obtain ⟨j, hj⟩ := List.mem_iff_getElem?.mp hy
      rw [List.getElem?_drop] at hj
      exact h3 _ y (by show k < k + 1 + j; omega) hj
  · unfold spotOf
    cases e : lastP (frd ps x) stand with
    | none =>
      refine .inr ⟨fun y hy => lastP_no.mp e y (List.mem_of_mem_take hy), ?_⟩
      show stand.drop stand.length = []
      exact List.drop_length
    | some k =>
      obtain ⟨f, h1, h2, h3⟩ := lastP_some e
      refine .inl ⟨stand.take k, f, ?_, h2⟩
      show stand.take (k + 1) = _
      rw [List.take_add_one, h1]
      rfl
theorem come_rem {ps : List (Str × Str)} {stand : List Str} {x : Str} (hd : (x :: stand).Nodup) : rem (comeTo ps stand x) x = stand := by
  have e : comeTo ps stand x = stand.take (spotOf ps stand x) ++ x :: stand.drop (spotOf ps stand x) := by
    unfold comeTo
    simp
  have hn : (comeTo ps stand x).Nodup := (come_perm ps stand x).nodup_iff.mpr hd
  rw [e] at hn ⊢
  rw [rem_split hn, List.take_append_drop]
/-- who is loose, taken out, comes in there again -/
theorem loose_come {ps : List (Str × Str)} {row : List Str} {x : Str} (irr : Irr ps) (hd : row.Nodup) (h : LooseIn ps row x) : comeTo ps (rem row x) x = row := by
  obtain ⟨a, b, e, hp⟩ := h
  have ei : row[a.length]? = some x := by rw [e]; simp
  have q := loose_iff (ps := ps) hd ei (irr x)
  rw [(looseB_iff e (irr x)).mpr hp] at q
  have z := of_decide_eq_true q
  have er : rem row x = row.take a.length ++ row.drop (a.length + 1) := by
    rw [e, rem_split (by rw [← e]; exact hd)]
    simp
  rw [er]
  exact z
/-! ### two more comparisons -/
section
variable {X : Cx}
end
theorem Goods.rem {xs : List Str} {x : Str} (h : Goods xs) : Goods (Lk.rem xs x) := h.filter
theorem looseL_sub {ps : List (Str × Str)} {row : List Str} {x : Str} (h : x ∈ looseL ps row) : x ∈ row := by
  unfold looseL at h
  obtain ⟨⟨y, j⟩, hp, rfl⟩ := List.mem_map.mp h
  exact List.mem_of_getElem? (List.mem_zipIdx_iff_getElem?.mp (List.mem_filter.mp hp).1)
/-! ### promises -/
def spHostP : Sp := fun vs H Q _ => ∃ (d r : Addr) (ps : List (Str × Str)) (row : List Str) (who : Str), vs = [.ref d, .ref r, .str who] ∧ KnAt H d ps ∧ RowAt H r row ∧ row.length ≤ 100 ∧ who ∉ row ∧
  ∀ H', Same H H' → Q (lfpV (lastP (frd ps who) row)) H'
def spStood : Sp := fun vs H Q _ => ∃ (d r : Addr) (ps : List (Str × Str)) (row : List Str) (who : Str), vs = [.ref d, .ref r, .str who] ∧ KnAt H d ps ∧ RowAt H r row ∧ row.length ≤ 100 ∧ who ∉ row ∧
  ∀ t H', Same H H' → TupAt H' t ((comeTo ps row who).map V.str) → Q (.ref t) H'
def spLetIn : Sp := fun vs H Q _ => ∃ (a r : Addr) (ps : List (Str × Str)) (row : List Str) (who : Str), vs = [.ref a, .ref r, .str who] ∧ FrAt H a ps ∧ ps.length ≤ 1000 ∧ RowAt H r row ∧ row.length ≤ 100 ∧ who ∉ row ∧
  ∀ t H', Same H H' → TupAt H' t ((comeTo ps row who).map V.str) → Q (.ref t) H'
end Lk
set_option maxRecDepth 100000
set_option maxHeartbeats 4000000
namespace Lk
open PySem PySem.Spec PyProof.Rows L2

/-! ### how many that came later stand ahead -/
abbrev B3N := Addr × Str × Nat
def refsN (qs : List B3N) : List V := qs.map fun q => V.ref q.1
def PairsN (H : Hp) (qs : List B3N) : Prop := ∀ q ∈ qs, H q.1 = some (.tup [.str q.2.1, .int q.2.2])
theorem PairsN.same {H H' : Hp} {qs : List B3N} (s : Same H H') (h : PairsN H qs) : PairsN H' qs := fun b hb => s _ _ (h b hb)
theorem PairsN.oth {H H' : Hp} {b : Addr} {qs : List B3N} (s : Oth b H H') (hb : IsBox H b) (h : PairsN H qs) : PairsN H' qs := fun c hc => s _ _ (hb.ne_tup (h c hc)) (h c hc)
theorem PairsN.upd_ {H : Hp} {l : Addr} {ys : List V} {o' : HO} {qs : List B3N} (hl : H l = some (.lst ys)) (h : PairsN H qs) : PairsN (upd H l o') qs := fun c hc => (upd_ne (ne_of (h c hc) hl (fun z => nomatch z))).trans (h c hc)
theorem idx_at {order : List Str} {i : Nat} {x : Str} (hd : order.Nodup) (h : order[i]? = some x) : order.idxOf x = i := by
  have hx : x ∈ order := List.mem_of_getElem? h
  have hl : order.idxOf x < order.length := List.idxOf_lt_length_iff.mpr hx
  have e : order[order.idxOf x]? = some x := by
    rw [List.getElem?_eq_getElem hl, List.getElem_idxOf]
  exact nd_ix hd e h
/-! ### a walk's dict comprehension -/
theorem dc_it {J : It} {n : Nat} {G : Hp → Prop} {Y : Nat → Hp → V → Hp → Prop} (w : Walk J n G Y) {g : TG} {tt : TT} {tk tv : TE} {vs : List Nat} {σ : L2.St} {H1 : Hp} {D : Addr} {Qd : Hp → Prop} (Pv : Nat → Hp → Prop) (h0 : Pv 0 (upd H1 D (.dK []))) (hG : ∀ i H, i ≤ n → Pv i H → G H)
    (hs : ∀ i x H H', i < n → Pv i H → Y i H x H' → g x (wipe σ vs) H' fun σ2 H2 => wipe σ2 vs = wipe σ vs ∧ tt σ2 H2 fun b H3 =>
      if b = true then tk σ2 H3 fun y H4 => tv σ2 H4 fun z H5 => ∃ kvs k, y = kV k ∧ H5 D = some (.dK kvs) ∧ kvs.length < sizeLine ∧ Pv (i + 1) (upd H5 D (.dK (putK kvs k z))) else Pv (i + 1) H3) (hd : ∀ H, Pv n H → Qd H) :
    ∃ W : Nat → Nat → Hp → Prop, (∃ m, W 0 m (upd H1 D (.dK []))) ∧ ∀ i m H, W i m H →
      (J.stop i H ∧ Qd H) ∨ (J.go i H ∧ ∃ Nx : Hp → Prop, (∀ H', Nx H' → ∃ m', m' < m ∧ W (i + 1) m' H') ∧ ∀ x H', J.yld i H x H' → g x (wipe σ vs) H' fun σ2 H2 => wipe σ2 vs = wipe σ vs ∧ tt σ2 H2 fun b H3 =>
        if b = true then tk σ2 H3 fun y H4 => tv σ2 H4 fun z H5 => ∃ kvs k, y = kV k ∧ H5 D = some (.dK kvs) ∧ kvs.length < sizeLine ∧ Nx (upd H5 D (.dK (putK kvs k z))) else Nx H3) := by
  refine ⟨fun i m H => m = n - i ∧ i ≤ n ∧ Pv i H, ⟨n, by simp, Nat.zero_le _, h0⟩, fun i m H hW => ?_⟩
  obtain ⟨rfl, hi, p⟩ := hW
  have q := hG i H hi p
  by_cases hlt : i < n
  · exact .inr ⟨w.goes i H hlt q, Pv (i + 1), fun H' p' => ⟨n - (i + 1), by omega, rfl, hlt, p'⟩, fun x H' y => hs i x H H' hlt p (w.yields i H x H' hlt q y)⟩
  · have e : i = n := by omega
    subst e
    exact .inl ⟨w.stops H q, hd H p⟩
theorem putK_lenK {kvs : List (Key × V)} {k : Key} {v : V} : (putK kvs k v).length ≤ kvs.length + 1 := by
  unfold putK
  split
  · rw [List.length_map]
    omega
  · rw [List.length_append]
    exact Nat.le_refl _
/-! ### promises -/
end Lk
set_option maxRecDepth 100000
set_option maxHeartbeats 4000000
namespace Lk
open PySem PySem.Spec PyProof.Rows L2

/-! ### who goes, one after another: the hindmost one first -/
def someL (ps : List (Str × Str)) (stay row : List Str) : List Str := (looseL ps row).filter fun x => !decide (x ∈ stay)
theorem someL_sub {ps : List (Str × Str)} {stay row : List Str} {x : Str} (h : x ∈ someL ps stay row) : x ∈ looseL ps row ∧ x ∉ stay := by
  obtain ⟨h1, h2⟩ := List.mem_filter.mp h
  refine ⟨h1, ?_⟩
  simpa using h2
theorem someL_in {ps : List (Str × Str)} {stay row : List Str} {x : Str} (h : x ∈ looseL ps row) (hs : x ∉ stay) : x ∈ someL ps stay row :=
  List.mem_filter.mpr ⟨h, by simpa using hs⟩
def goneN (ps : List (Str × Str)) (stay : List Str) : Nat → List Str → List Str × List Str
  | 0, row => ([], row)
  | n + 1, row => match (someL ps stay row).getLast? with
    | none => ([], row)
    | some x => (x :: (goneN ps stay n (rem row x)).1, (goneN ps stay n (rem row x)).2)
def goneO (ps : List (Str × Str)) (stay row : List Str) : List Str := (goneN ps stay row.length row).1
def goneR (ps : List (Str × Str)) (stay row : List Str) : List Str := (goneN ps stay row.length row).2
theorem gone_none {ps : List (Str × Str)} {stay row : List Str} (h : someL ps stay row = []) : goneO ps stay row = [] ∧ goneR ps stay row = row := by
  unfold goneO goneR
  cases row.length with
  | zero => exact ⟨rfl, rfl⟩
  | succ n =>
    unfold goneN
    rw [h]
    exact ⟨rfl, rfl⟩
theorem last_mem {α : Type} {l : List α} {x : α} (h : l.getLast? = some x) : x ∈ l := by
  obtain ⟨ys, e⟩ := List.getLast?_eq_some_iff.mp h
  rw [e]
  simp
theorem gone_some {ps : List (Str × Str)} {stay row : List Str} {x : Str} (hd : row.Nodup) (h : (someL ps stay row).getLast? = some x) : goneO ps stay row = x :: goneO ps stay (rem row x) ∧ goneR ps stay row = goneR ps stay (rem row x) := by
  have hx := looseL_sub (someL_sub (last_mem h)).1
  have rl := rem_len hd hx
  unfold goneO goneR
  rw [← rl]
  show (goneN ps stay ((rem row x).length + 1) row).1 = _ ∧ _
  unfold goneN
  rw [h]
  cases (rem row x).length <;> exact ⟨rfl, rfl⟩
theorem gone_red {ps : List (Str × Str)} {stay : List Str} (irr : Irr ps) : ∀ (n : Nat) (row : List Str), row.length = n → row.Nodup → Red ps stay row (goneR ps stay row) ∧ Nf ps stay (goneR ps stay row) ∧ (goneO ps stay row).length ≤ n
  | n, row, hn, hd => by
    cases e : (someL ps stay row).getLast? with
    | none =>
      have e' := List.getLast?_eq_none_iff.mp e
      obtain ⟨g1, g2⟩ := gone_none e'
      rw [g1, g2]
      refine ⟨.done row, fun x hx => ?_, Nat.zero_le _⟩
      refine Classical.byContradiction fun c => ?_
      have := someL_in ((looseL_iff irr hd).mpr hx) c
      rw [e'] at this
      cases this
    | some x =>
      obtain ⟨g1, g2⟩ := gone_some hd e
      obtain ⟨m1, m2⟩ := someL_sub (last_mem e)
      have lx := (looseL_iff irr hd).mp m1
      have rl := rem_len hd lx.mem
      match n, hn with
      | 0, hn => omega
      | n + 1, hn =>
        obtain ⟨i1, i2, i3⟩ := gone_red irr n (rem row x) (by omega) (rem_nodup hd)
        rw [g1, g2]
        refine ⟨.go x lx m2 i1, i2, ?_⟩
        rw [List.length_cons]
        omega
theorem Red.nodup {ps : List (Str × Str)} {stay row n : List Str} (h : Red ps stay row n) : row.Nodup → n.Nodup := by
  induction h with
  | done row => exact id
  | go x h hs t ih => exact fun hd => ih (rem_nodup hd)
theorem Red.len {ps : List (Str × Str)} {stay row n : List Str} (h : Red ps stay row n) : n.length ≤ row.length := by
  induction h with
  | done row => exact Nat.le_refl _
  | go x h hs t ih => exact Nat.le_trans ih (List.length_filter_le _ _)
theorem Red.sub {ps : List (Str × Str)} {stay row n : List Str} (h : Red ps stay row n) : ∀ y ∈ n, y ∈ row := by
  induction h with
  | done row => exact fun _ h => h
  | go x h hs t ih => exact fun y hy => (List.mem_filter.mp (ih y hy)).1
/-! ### promises -/
def ButAt (K : PySem.W.Frag) (H : Hp) (p : Addr) (stay : List Str) : Prop := SqL K H p (stay.map V.str) ∨ SqT K H p (stay.map V.str)
/-- the but list does not change -/
def ButKeeps (K : PySem.W.Frag) (H : Hp) (p : Addr) (stay : List Str) : Prop := ∀ H', Same H H' → ButAt K H' p stay
end Lk
set_option maxRecDepth 100000
set_option maxHeartbeats 4000000
namespace Lk
open PySem PySem.Spec PyProof.Rows L2
section
variable {X : Cx}
end
theorem PalsAt.upd_ {H : Hp} {l a : Addr} {ys : List V} {o' : HO} {ps : List (Str × Str)} (h : PalsAt H a ps) (hl : H l = some (.lst ys)) : PalsAt (upd H l o') a ps := by
  obtain ⟨bs, h1, h2, h3⟩ := h
  exact ⟨bs, (upd_ne (ne_of h1 hl (fun z => nomatch z))).trans h1, fun c hc => (upd_ne (ne_of (h2 c hc) hl (fun z => nomatch z))).trans (h2 c hc), h3⟩
/-! ### the law's own going -/
/-! ### a def with one keyword-only parameter that has a default -/
structure Cal3 (P : Program) (w : World) (K : PySem.W.Frag) (mg : Str → Option Value) (base : Heap) (k : Nat) (x : Str) (sp : Sp) (E : Addr) : Prop where
  ex : ∃ f fd, FnOk P w K mg base CX0 k f fd ["friends", "row", "but"] sp ∧ mg x = some (.ref f) ∧ PySem.W.keepIn K (.ref f) = true ∧ KBn K fd ["friends", "row", "but"] 2 ["but"] (fun us ws => us ++ ws) (fun vs zs => vs ++ zs) ∧ KBinds K fd ["friends", "row", "but"] ["but", "row", "friends"] gRev gRev ∧ (∃ ds, Vals [V.ref E] ds ∧ Binds K fd ["friends", "row", "but"] ds) ∧
    (∃ mv : List Value, KBn K fd ["friends", "row", "but"] 0 ["row", "friends"] (fun us ws => ws.reverse ++ mv) (fun vs zs => zs.reverse ++ [V.ref E]))
  emp : ∃ (o : Obj) (n : Nat), K.lookup E = some o ∧ o.cls = .type "tuple" ∧ o.data = .seq #[] n
theorem Cal3.but {P : Program} {w : World} {K : PySem.W.Frag} {mg : Str → Option Value} {base : Heap} {k : Nat} {x : Str} {sp : Sp} {E : Addr} (C : Cal3 P w K mg base k x sp E) (H : Hp) : ButAt K H E [] := by
  obtain ⟨o, n, h1, h2, h3⟩ := C.emp
  exact .inr (.inr ⟨o, #[], n, h1, h2, h3, Nat.zero_le _, .nil⟩)
section
variable {X : Cx} {k : Nat} {x : Str} {sp : Sp} {D : Addr} {p pos : Pos} {e : Expr} {es : List Expr} {t tk : TA} {kws : List Keyword}
end
end Lk
set_option maxRecDepth 100000
set_option maxHeartbeats 4000000
namespace Lk
open PySem PySem.Spec PyProof.Rows L2

/-! ### of those who are left each bars one of them -/
def Ahead (row : List Str) (h x : Str) : Prop := ∃ a b, row = a ++ x :: b ∧ h ∈ a
theorem frd_sym (ps : List (Str × Str)) (a b : Str) : frd ps a b = frd ps b a := by
  exact frd_comm ps a b
theorem Ahead.mem {row : List Str} {h x : Str} (k : Ahead row h x) : h ∈ row ∧ x ∈ row := by
  obtain ⟨a, b, rfl, m⟩ := k
  exact ⟨List.mem_append_left _ m, by simp⟩
theorem Ahead.lt {row : List Str} {h x : Str} {i j : Nat} (hd : row.Nodup) (k : Ahead row h x) (hi : row[i]? = some h) (hj : row[j]? = some x) : i < j := by
  obtain ⟨a, b, rfl, m⟩ := k
  have e1 : (a ++ x :: b)[a.length]? = some x := by simp
  have e2 := nd_ix hd hj e1
  obtain ⟨n, hn⟩ := List.mem_iff_getElem?.mp m
  have ln : n < a.length := (List.getElem?_eq_some_iff.mp hn).1
  have e3 : (a ++ x :: b)[n]? = some h := by
    rw [List.getElem?_append_left ln]
    exact hn
  have e4 := nd_ix hd hi e3
  omega
theorem rem_app (a b : List Str) {x y : Str} (ne : x ≠ y) : rem (a ++ x :: b) y = rem a y ++ x :: rem b y := by
  unfold rem
  rw [List.filter_append, List.filter_cons]
  simp [ne]
theorem mem_rem {row : List Str} {x y : Str} : x ∈ rem row y ↔ x ∈ row ∧ x ≠ y := by
  unfold rem
  rw [List.mem_filter]
  simp
theorem Ahead.rem {row : List Str} {h x y : Str} (k : Ahead row h x) (n1 : h ≠ y) (n2 : x ≠ y) : Ahead (Lk.rem row y) h x := by
  obtain ⟨a, b, rfl, m⟩ := k
  exact ⟨Lk.rem a y, Lk.rem b y, rem_app a b n2, mem_rem.mpr ⟨m, n1⟩⟩
theorem Ahead.of_rem {row : List Str} {h x y : Str} (hd : row.Nodup) (k : Ahead (Lk.rem row y) h x) : Ahead row h x := by
  have hx := mem_rem.mp k.mem.2
  obtain ⟨a', b', e', m⟩ := k
  obtain ⟨a, b, e⟩ := List.append_of_mem hx.1
  have e2 : Lk.rem row y = Lk.rem a y ++ x :: Lk.rem b y := by rw [e]; exact rem_app a b hx.2
  have u := split_uniq (rem_nodup hd) e' e2
  rw [u.1] at m
  exact ⟨a, b, e, (mem_rem.mp m).1⟩
theorem Red.ahead {ps : List (Str × Str)} {stay row n : List Str} (r : Red ps stay row n) : row.Nodup → ∀ {h x : Str}, Ahead n h x → Ahead row h x := by
  induction r with
  | done row => exact fun _ {h x} k => k
  | go y hy hs t ih => exact fun hd {h x} k => (ih (rem_nodup hd) k).of_rem hd
theorem Red.keeps {ps : List (Str × Str)} {stay row n : List Str} (r : Red ps stay row n) : row.Nodup → ∀ {h x : Str}, x ∈ n → Ahead row h x → frd ps x h = true → Ahead n h x := by
  induction r with
  | done row => exact fun _ {h x} _ k _ => k
  | @go row n y hy hs t ih =>
    intro hd h x hx k hf
    have nx : x ≠ y := (mem_rem.mp (t.sub x hx)).2
    have nh : h ≠ y := fun z => by
      subst z
      obtain ⟨a, b, e, q1, _⟩ := hy
      obtain ⟨a', b', e', m⟩ := k
      have hxb : x ∈ b := by
        have hx' : x ∈ a ++ h :: b := by rw [← e, e']; simp
        rcases List.mem_append.mp hx' with z | z
        · exfalso
          obtain ⟨i, hi⟩ := List.mem_iff_getElem?.mp z
          have li : i < a.length := (List.getElem?_eq_some_iff.mp hi).1
          have r1 : row[i]? = some x := by rw [e, List.getElem?_append_left li]; exact hi
          have r2 : row[a.length]? = some h := by rw [e]; simp
          have := Ahead.lt hd ⟨a', b', e', m⟩ r2 r1
          omega
        · rcases List.mem_cons.mp z with z | z
          · exact absurd z nx
          · exact z
      have := q1 x hxb
      rw [frd_sym] at this
      rw [this] at hf
      cases hf
    exact ih (rem_nodup hd) hx (k.rem nh nx) hf
theorem optW_mem (w : Str) : w ∈ optW true w := by
  unfold optW
  simp
theorem words_friend {ps : List (Str × Str)} {row : List Str} {one other : Str} {i j : Nat} (h : i < j) (f : frd ps one other = true) : wordsOf ps row one other i j ≠ [] := fun z => by
  have m : ("friend" : Str) ∈ wordsOf ps row one other i j := by
    unfold wordsOf
    refine List.mem_append_right _ ?_
    rw [decide_eq_true h, f]
    exact optW_mem _
  rw [z] at m
  cases m
theorem words_behind {ps : List (Str × Str)} {row : List Str} {one other : Str} {i j : Nat} (h : i < j) (f : lastP (frd ps one) (row.take i) = none) : wordsOf ps row one other i j ≠ [] := fun z => by
  have m : ("behind" : Str) ∈ wordsOf ps row one other i j := by
    unfold wordsOf
    refine List.mem_append_left _ (List.mem_append_left _ ?_)
    rw [decide_eq_true h, decide_eq_true f]
    exact optW_mem _
  rw [z] at m
  cases m
theorem words_between {ps : List (Str × Str)} {row : List Str} {one other : Str} {i j k : Nat} (f : lastP (frd ps one) (row.take i) = some k) (h1 : k < j) (h2 : j < i) : wordsOf ps row one other i j ≠ [] := fun z => by
  have m : ("between" : Str) ∈ wordsOf ps row one other i j := by
    unfold wordsOf
    refine List.mem_append_left _ (List.mem_append_right _ ?_)
    rw [f]
    show _ ∈ optW (decide (k < j) && decide (j < i)) "between"
    rw [decide_eq_true h1, decide_eq_true h2]
    exact optW_mem _
  rw [z] at m
  cases m
theorem words_self {ps : List (Str × Str)} {row : List Str} {x : Str} {i : Nat} (hl : i ≤ row.length) : wordsOf ps row x x i i = [] := by
  unfold wordsOf
  rw [decide_eq_false (Nat.lt_irrefl i), Bool.and_false, Bool.false_and]
  have : btw i i (lastP (frd ps x) (row.take i)) = false := by
    unfold btw
    split
    · rfl
    · rw [decide_eq_false (Nat.lt_irrefl i), Bool.and_false]
  rw [this]
  rfl
theorem bars_left {ps : List (Str × Str)} {row left : List Str} {x : Str} {i : Nat} (hd : row.Nodup) (r : Red ps [] row left) (nf : Nf ps [] left) (hx : x ∈ left) (hi : row[i]? = some x) : ∃ z j, z ∈ left ∧ row[j]? = some z ∧ wordsOf ps row x z i j ≠ [] := by
  have ndl := r.nodup hd
  obtain ⟨a, b, e⟩ := List.append_of_mem hx
  have nl : ¬ LooseP ps a b x := fun z => by
    have := nf x ⟨a, b, e, z⟩
    cases this
  have place : ∀ z ∈ left, ∃ j, row[j]? = some z := fun z hz => List.mem_iff_getElem?.mp (r.sub z hz)
  have behind : ∀ z ∈ b, Ahead left x z := fun z hz => by
    obtain ⟨b1, b2, eb⟩ := List.append_of_mem hz
    exact ⟨a ++ x :: b1, b2, by rw [e, eb]; simp, by simp⟩
  by_cases c : ∃ y ∈ b, frd ps x y = true
  · obtain ⟨y, hy, f⟩ := c
    have my : y ∈ left := by rw [e]; simp [hy]
    obtain ⟨j, hj⟩ := place y my
    exact ⟨y, j, my, hj, words_friend ((r.ahead hd (behind y hy)).lt hd hi hj) f⟩
  · have nb : ∀ y ∈ b, frd ps x y = false := fun y hy => by
      cases f : frd ps x y with
      | false => rfl
      | true => exact absurd ⟨y, hy, f⟩ c
    have ahd : ∀ y ∈ a, Ahead left y x := fun y hy => ⟨a, b, e, hy⟩
    cases hk : lastP (frd ps x) (row.take i) with
    | none =>
      have na := lastP_no.mp hk
      have nfa : ∀ y ∈ a, frd ps x y = false := fun y hy => by
        obtain ⟨j, hj⟩ := place y (ahd y hy).mem.1
        have lt := (r.ahead hd (ahd y hy)).lt hd hj hi
        refine na y (List.mem_iff_getElem?.mpr ⟨j, ?_⟩)
        rw [List.getElem?_take, if_pos lt]
        exact hj
      cases b with
      | nil => exact absurd ⟨nb, .inr ⟨nfa, rfl⟩⟩ nl
      | cons z b' =>
        have mz : z ∈ left := by rw [e]; simp
        obtain ⟨j, hj⟩ := place z mz
        exact ⟨z, j, mz, hj, words_behind ((r.ahead hd (behind z (List.mem_cons_self ..))).lt hd hi hj) hk⟩
    | some k =>
      obtain ⟨h, h1, h2, h3⟩ := lastP_some hk
      have hki : k < i := by
        have := lastP_lt hk
        rw [List.length_take] at this
        omega
      rw [List.getElem?_take, if_pos hki] at h1
      have ahr : Ahead row h x := by
        have sp := split_at hi
        refine ⟨row.take i, row.drop (i + 1), sp, List.mem_iff_getElem?.mpr ⟨k, ?_⟩⟩
        rw [List.getElem?_take, if_pos hki]
        exact h1
      obtain ⟨a', b', e', m⟩ := r.keeps hd hx ahr h2
      have u := split_uniq ndl e' e
      rw [u.1] at m
      obtain ⟨a1, a2, ea⟩ := List.append_of_mem m
      cases a2 with
      | nil => exact absurd ⟨nb, .inl ⟨a1, h, ea, h2⟩⟩ nl
      | cons z a3 =>
        have mz : z ∈ left := by rw [e, ea]; simp
        obtain ⟨j, hj⟩ := place z mz
        have k1 : Ahead left h z := ⟨a1 ++ [h], a3 ++ x :: b, by rw [e, ea]; simp, by simp⟩
        have k2 : Ahead left z x := ahd z (by rw [ea]; simp)
        exact ⟨z, j, mz, hj, words_between hk ((r.ahead hd k1).lt hd h1 hj) ((r.ahead hd k2).lt hd hj hi)⟩
theorem nd_len : ∀ (l m : List Str), l.Nodup → (∀ x ∈ l, x ∈ m) → l.length ≤ m.length
  | [], _, _, _ => Nat.zero_le _
  | x :: l, m, h, s => by
    obtain ⟨n1, n2⟩ := List.nodup_cons.mp h
    obtain ⟨a, b, e⟩ := List.append_of_mem (s x (List.mem_cons_self ..))
    have ih := nd_len l (a ++ b) n2 fun y hy => by
      have ne : y ≠ x := fun z => n1 (z ▸ hy)
      have := s y (List.mem_cons_of_mem _ hy)
      rw [e] at this
      rcases List.mem_append.mp this with z | z
      · exact List.mem_append_left _ z
      · rcases List.mem_cons.mp z with z | z
        · exact absurd z ne
        · exact List.mem_append_right _ z
    rw [List.length_append] at ih
    rw [e, List.length_append, List.length_cons, List.length_cons]
    omega
/-! ### rings -/
def wordsAt (ps : List (Str × Str)) (row : List Str) (a b : Str) : List Str := wordsOf ps row a b (row.idxOf a) (row.idxOf b)
def barredL (ps : List (Str × Str)) (row left : List Str) (who : Str) : List (Str × Str) := left.flatMap fun o => (wordsAt ps row who o).map fun w => (o, w)
def nextB (ps : List (Str × Str)) (row left : List Str) (who : Str) : Str × Str := (barredL ps row left who).headD (who, "")
def ringN (ps : List (Str × Str)) (row left : List Str) : Nat → List (Str × Str) → Str → List (Str × Str)
  | 0, path, _ => path
  | n + 1, path, who => if who ∈ path.map (·.1) then path.drop ((path.map (·.1)).idxOf who) else ringN ps row left n (path ++ [(who, (nextB ps row left who).2)]) (nextB ps row left who).1
def ringOf (ps : List (Str × Str)) (row left : List Str) : List (Str × Str) := ringN ps row left (left.length + 1) [] (left.headD "")
theorem barred_mem {ps : List (Str × Str)} {row left : List Str} {who : Str} {q : Str × Str} : q ∈ barredL ps row left who ↔ q.1 ∈ left ∧ q.2 ∈ wordsAt ps row who q.1 := by
  unfold barredL
  rw [List.mem_flatMap]
  constructor
  · rintro ⟨o, ho, m⟩
    obtain ⟨w, hw, rfl⟩ := List.mem_map.mp m
    exact ⟨ho, hw⟩
  · rintro ⟨h1, h2⟩
    exact ⟨q.1, h1, List.mem_map.mpr ⟨q.2, h2, rfl⟩⟩
theorem barred_ne {ps : List (Str × Str)} {row left : List Str} {x : Str} (hd : row.Nodup) (r : Red ps [] row left) (nf : Nf ps [] left) (hx : x ∈ left) : barredL ps row left x ≠ [] := fun e => by
  obtain ⟨i, hi⟩ := List.mem_iff_getElem?.mp (r.sub x hx)
  obtain ⟨z, j, mz, hj, hw⟩ := bars_left hd r nf hx hi
  obtain ⟨w, hw⟩ := List.exists_mem_of_ne_nil _ hw
  have m : (z, w) ∈ barredL ps row left x := barred_mem.mpr ⟨mz, by
    show w ∈ wordsOf ps row x z (row.idxOf x) (row.idxOf z)
    rw [idx_at hd hi, idx_at hd hj]
    exact hw⟩
  rw [e] at m
  cases m
theorem next_mem {ps : List (Str × Str)} {row left : List Str} {x : Str} (h : barredL ps row left x ≠ []) : nextB ps row left x ∈ barredL ps row left x := by
  unfold nextB
  cases e : barredL ps row left x with
  | nil => exact absurd e h
  | cons q l => exact List.mem_cons_self ..
structure RingOk (ps : List (Str × Str)) (row left : List Str) (ring : List (Str × Str)) : Prop where
  two : 2 ≤ ring.length
  nd : (ring.map (·.1)).Nodup
  sub : ∀ x ∈ ring.map (·.1), x ∈ left
  bar : ∀ (i : Nat) (x w y : Str), ring[i]? = some (x, w) → ((ring.map (·.1)).drop 1 ++ (ring.map (·.1)).take 1)[i]? = some y → w ∈ wordsAt ps row x y
theorem ring_ok {ps : List (Str × Str)} {row left : List Str} (hd : row.Nodup) (r : Red ps [] row left) (nf : Nf ps [] left) : ∀ (m : Nat) (path : List (Str × Str)) (who : Str), m + path.length = left.length + 1 → (path.map (·.1)).Nodup → (∀ x ∈ path.map (·.1), x ∈ left) → who ∈ left →
    (∀ (i : Nat) (x w : Str), path[i]? = some (x, w) → ∃ y, (path.map (·.1) ++ [who])[i + 1]? = some y ∧ w ∈ wordsAt ps row x y) → RingOk ps row left (ringN ps row left m path who)
  | 0, path, who, hm, hn, hs, hw, hc => by
    have := nd_len _ _ hn hs
    rw [List.length_map] at this
    omega
  | m + 1, path, who, hm, hn, hs, hw, hc => by
    unfold ringN
    by_cases c : who ∈ path.map (·.1)
    · rw [if_pos c]
      have hk : (path.map (·.1)).idxOf who < (path.map (·.1)).length := List.idxOf_lt_length_iff.mpr c
      have ek : (path.map (·.1))[(path.map (·.1)).idxOf who]? = some who := by rw [List.getElem?_eq_getElem hk, List.getElem_idxOf]
      generalize (path.map (·.1)).idxOf who = k at hk ek
      rw [List.length_map] at hk
      have bar : ∀ (i : Nat) (x w y : Str), (path.drop k)[i]? = some (x, w) → (((path.drop k).map (·.1)).drop 1 ++ ((path.drop k).map (·.1)).take 1)[i]? = some y → w ∈ wordsAt ps row x y := by
        intro i x w y h1 h2
        rw [List.getElem?_drop] at h1
        obtain ⟨y', h3, h4⟩ := hc _ x w h1
        have et : ((path.drop k).map (·.1)).take 1 = [who] := by
          rw [List.map_drop]
          have hne : (path.map (·.1)).drop k = who :: (path.map (·.1)).drop (k + 1) := by
            rw [List.getElem?_eq_some_iff] at ek
            obtain ⟨q1, q2⟩ := ek
            rw [List.drop_eq_getElem_cons q1, q2]
          rw [hne]
          rfl
        have ed : (path.map (·.1) ++ [who])[k + i + 1]? = (((path.drop k).map (·.1)).drop 1 ++ ((path.drop k).map (·.1)).take 1)[i]? := by
          rw [et, List.map_drop, List.drop_drop, ← List.drop_append_of_le_length (l₂ := [who]) (by rw [List.length_map]; omega), List.getElem?_drop]
          congr 1
          omega
        rw [ed, h2] at h3
        cases h3
        exact h4
      have nd' : ((path.drop k).map (·.1)).Nodup := by
        rw [List.map_drop]
        exact hn.sublist (List.drop_sublist _ _)
      refine ⟨?_, nd', fun x hx => hs x ?_, bar⟩
      · rw [List.length_drop]
        refine Classical.byContradiction fun z => ?_
        have e1 : k + 1 = path.length := by omega
        obtain ⟨⟨x, w⟩, hx⟩ : ∃ q, path[k]? = some q := ⟨path[k]'hk, List.getElem?_eq_getElem hk⟩
        have ex : x = who := by
          rw [List.getElem?_map, hx] at ek
          exact Option.some.inj ek
        have ed : (path.drop k) = [(x, w)] := by
          have q := (List.getElem?_eq_some_iff.mp hx)
          rw [List.drop_eq_getElem_cons hk, q.2, List.drop_eq_nil_of_le (by omega)]
        have := bar 0 x w x (by rw [ed]; rfl) (by rw [ed]; rfl)
        have hxr : row.idxOf x ≤ row.length := List.idxOf_le_length
        unfold wordsAt at this
        rw [words_self hxr] at this
        cases this
      · rw [List.map_drop] at hx
        exact List.mem_of_mem_drop hx
    · rw [if_neg c]
      have nx := barred_mem.mp (next_mem (barred_ne hd r nf hw))
      refine ring_ok hd r nf m _ _ ?_ ?_ ?_ nx.1 ?_
      · rw [List.length_append]
        show m + (path.length + 1) = _
        omega
      · rw [List.map_append]
        refine List.nodup_append.mpr ⟨hn, by simp, ?_⟩
        intro x hx y hy
        have ey : y = who := by simpa using hy
        rw [ey]
        exact fun z => c (z ▸ hx)
      · intro x hx
        rw [List.map_append] at hx
        rcases List.mem_append.mp hx with z | z
        · exact hs x z
        · have : x = who := by simpa using z
          rw [this]
          exact hw
      · intro i x w h
        rw [List.map_append]
        show ∃ y, (path.map (·.1) ++ [who] ++ [(nextB ps row left who).1])[i + 1]? = some y ∧ _
        by_cases hi : i < path.length
        · rw [List.getElem?_append_left hi] at h
          obtain ⟨y, h1, h2⟩ := hc i x w h
          refine ⟨y, ?_, h2⟩
          rw [List.getElem?_append_left (by rw [List.length_append, List.length_map]; show i + 1 < path.length + 1; omega)]
          exact h1
        · have li : i < (path ++ [(who, (nextB ps row left who).2)]).length := (List.getElem?_eq_some_iff.mp h).1
          rw [List.length_append] at li
          have ei : i = path.length := by
            have : i < path.length + 1 := li
            omega
          subst ei
          have : (path ++ [(who, (nextB ps row left who).2)])[path.length]? = some (who, (nextB ps row left who).2) := by simp
          rw [this] at h
          cases h
          refine ⟨(nextB ps row left who).1, ?_, nx.2⟩
          have le : (path.map (·.1) ++ [who]).length = path.length + 1 := by rw [List.length_append, List.length_map]; rfl
          rw [← le]
          simp
theorem ringOf_ok {ps : List (Str × Str)} {row left : List Str} (hd : row.Nodup) (r : Red ps [] row left) (nf : Nf ps [] left) (ne : left ≠ []) : RingOk ps row left (ringOf ps row left) := by
  refine ring_ok hd r nf _ [] _ rfl List.nodup_nil (fun _ h => nomatch h) ?_ (fun i x w h => by simp at h)
  cases left with
  | nil => exact absurd rfl ne
  | cons a l => exact List.mem_cons_self ..
theorem ring_len {ps : List (Str × Str)} {row left : List Str} (h : RingOk ps row left ring) : ring.length ≤ left.length := by
  have := nd_len _ _ h.nd h.sub
  rw [List.length_map] at this
  exact this
/-! ### walks within walks -/
/-! ### promises -/
/-- what order_of tells: p the list in it -/
def OrdAt (H : Hp) (p : Addr) (word : Str) (ps : List (Str × Str)) (row : List Str) : Prop :=
  (goneR ps [] row = [] ∧ word = "order" ∧ H p = some (.lst ((goneO ps [] row).reverse.map V.str))) ∨ (goneR ps [] row ≠ [] ∧ word = "ring" ∧ ∃ bs : List B3, H p = some (.lst (refs bs)) ∧ PairsAt H bs ∧ bs.map (·.2) = ringOf ps row (goneR ps [] row))
theorem OrdAt.same {H H' : Hp} {p : Addr} {word : Str} {ps : List (Str × Str)} {row : List Str} (s : Same H H') (h : OrdAt H p word ps row) : OrdAt H' p word ps row :=
  h.elim (fun ⟨h1, h2, h3⟩ => .inl ⟨h1, h2, s _ _ h3⟩) (fun ⟨h1, h2, bs, h3, h4, h5⟩ => .inr ⟨h1, h2, bs, s _ _ h3, h4.same s, h5⟩)
end Lk
set_option maxRecDepth 100000
set_option maxHeartbeats 4000000
namespace Lk
open PySem PySem.Spec PyProof.Rows L2
/-! ### len(set(xs)), xs a list of texts, none of them twice -/
section
variable {P : Program} {w : World} {A : Around} {E : Value → Shared → Prop} {s : Shared}
abbrev setOb (led : Bool) : Obj := { cls := .type "set", dict := none, data := .set #[] 0 (.fresh 0 0 led) }
end
section
variable {X : Cx}
end
end Lk
set_option maxRecDepth 100000
set_option maxHeartbeats 4000000
namespace Lk
open PySem PySem.Spec PyProof.Rows L2

/-! ### who stands ahead of whom, by places -/
theorem ix_at {row : List Str} {x : Str} (hx : x ∈ row) : row[row.idxOf x]? = some x := by
  have hl : row.idxOf x < row.length := List.idxOf_lt_length_iff.mpr hx
  rw [List.getElem?_eq_getElem hl, List.getElem_idxOf]
theorem ahead_ix {row : List Str} {x y : Str} (hd : row.Nodup) : Ahead row x y ↔ x ∈ row ∧ y ∈ row ∧ row.idxOf x < row.idxOf y := by
  constructor
  · intro k
    exact ⟨k.mem.1, k.mem.2, k.lt hd (ix_at k.mem.1) (ix_at k.mem.2)⟩
  · rintro ⟨hx, hy, h⟩
    refine ⟨row.take (row.idxOf y), row.drop (row.idxOf y + 1), split_at (ix_at hy), ?_⟩
    exact List.mem_iff_getElem?.mpr ⟨row.idxOf x, by rw [List.getElem?_take, if_pos h]; exact ix_at hx⟩
theorem mem_take_ix {row : List Str} {x : Str} {i : Nat} (hd : row.Nodup) : x ∈ row.take i ↔ x ∈ row ∧ row.idxOf x < i := by
  constructor
  · intro h
    obtain ⟨j, hj⟩ := List.mem_iff_getElem?.mp h
    rw [List.getElem?_take] at hj
    split at hj
    · rename_i c
      rw [idx_at hd hj]
      exact ⟨List.mem_of_getElem? hj, c⟩
    · cases hj
  · rintro ⟨h1, h2⟩
    exact List.mem_iff_getElem?.mpr ⟨row.idxOf x, by rw [List.getElem?_take, if_pos h2]; exact ix_at h1⟩
theorem rem_ix {row : List Str} {x u v : Str} (hd : row.Nodup) (hu : u ∈ row) (hv : v ∈ row) (nu : u ≠ x) (nv : v ≠ x) : (rem row x).idxOf u < (rem row x).idxOf v ↔ row.idxOf u < row.idxOf v := by
  have mu := mem_rem.mpr ⟨hu, nu⟩
  have mv := mem_rem.mpr ⟨hv, nv⟩
  constructor
  · intro h
    exact ((ahead_ix hd).mp (((ahead_ix (rem_nodup hd)).mpr ⟨mu, mv, h⟩).of_rem hd)).2.2
  · intro h
    exact ((ahead_ix (rem_nodup hd)).mp (((ahead_ix hd).mpr ⟨hu, hv, h⟩).rem nu nv)).2.2

/-! ### by which word one bars another -/
def BarsBy (ps : List (Str × Str)) (row : List Str) (a b w : Str) : Prop :=
  (w = "behind" ∧ (∀ h ∈ row, row.idxOf h < row.idxOf a → frd ps a h = false) ∧ row.idxOf a < row.idxOf b) ∨
  (w = "between" ∧ (∃ h ∈ row, frd ps a h = true ∧ row.idxOf h < row.idxOf a ∧ (∀ g ∈ row, row.idxOf g < row.idxOf a → frd ps a g = true → row.idxOf g ≤ row.idxOf h) ∧ row.idxOf h < row.idxOf b) ∧ row.idxOf b < row.idxOf a) ∨
  (w = "friend" ∧ row.idxOf a < row.idxOf b ∧ frd ps a b = true)
def Bars (ps : List (Str × Str)) (row : List Str) (a b : Str) : Prop := ∃ w, BarsBy ps row a b w
/-- who can have come last, by places -/
theorem loose_ix {ps : List (Str × Str)} {row : List Str} {x : Str} (hd : row.Nodup) : LooseIn ps row x ↔ x ∈ row ∧ (∀ y ∈ row, row.idxOf x < row.idxOf y → frd ps x y = false) ∧ ((∃ f ∈ row, row.idxOf f + 1 = row.idxOf x ∧ frd ps x f = true) ∨ ((∀ y ∈ row, row.idxOf y < row.idxOf x → frd ps x y = false) ∧ ∀ y ∈ row, ¬ row.idxOf x < row.idxOf y)) := by
  have parts : ∀ {a b : List Str}, row = a ++ x :: b → row.idxOf x = a.length ∧ (∀ y, y ∈ a ↔ y ∈ row ∧ row.idxOf y < row.idxOf x) ∧ (∀ y, y ∈ b ↔ y ∈ row ∧ row.idxOf x < row.idxOf y) := by
    intro a b e
    have ex : row.idxOf x = a.length := idx_at hd (by rw [e]; simp)
    have ta : row.take (row.idxOf x) = a := by rw [ex, e]; simp
    refine ⟨ex, fun y => ?_, fun y => ?_⟩
    · rw [← ta, mem_take_ix hd]
    · constructor
      · intro hy
        obtain ⟨j, hj⟩ := List.mem_iff_getElem?.mp hy
        have g : row[a.length + 1 + j]? = some y := by
          rw [e, List.getElem?_append_right (by omega), show a.length + 1 + j - a.length = j + 1 by omega, List.getElem?_cons_succ]
          exact hj
        refine ⟨List.mem_of_getElem? g, ?_⟩
        rw [idx_at hd g]
        omega
      · rintro ⟨hy, h⟩
        have hm : y ∈ a ++ x :: b := e ▸ hy
        rcases List.mem_append.mp hm with m | m
        · have := ((mem_take_ix hd).mp (ta.symm ▸ m : y ∈ row.take (row.idxOf x))).2
          omega
        · rcases List.mem_cons.mp m with z | z
          · subst z
            omega
          · exact z
  constructor
  · rintro ⟨a, b, e, q1, q2⟩
    obtain ⟨ex, ha, hb⟩ := parts e
    refine ⟨by rw [e]; simp, fun y hy h => q1 y ((hb y).mpr ⟨hy, h⟩), ?_⟩
    rcases q2 with ⟨a', f, ea, hf⟩ | ⟨h1, h2⟩
    · refine .inl ⟨f, ((ha f).mp (by rw [ea]; simp)).1, ?_, hf⟩
      have : row.idxOf f = a'.length := idx_at hd (by rw [e, ea]; simp)
      rw [this, ex, ea]
      simp
    · refine .inr ⟨fun y hy h => h1 y ((ha y).mpr ⟨hy, h⟩), fun y hy h => ?_⟩
      have := (hb y).mpr ⟨hy, h⟩
      rw [h2] at this
      cases this
  · rintro ⟨hx, q1, q2⟩
    obtain ⟨a, b, e⟩ := List.append_of_mem hx
    obtain ⟨ex, ha, hb⟩ := parts e
    refine ⟨a, b, e, fun y hy => q1 y ((hb y).mp hy).1 ((hb y).mp hy).2, ?_⟩
    rcases q2 with ⟨f, hf, h1, h2⟩ | ⟨h1, h2⟩
    · refine .inl ?_
      have hfa : f ∈ a := (ha f).mpr ⟨hf, by omega⟩
      have hne : a ≠ [] := fun z => by rw [z] at hfa; cases hfa
      refine ⟨a.dropLast, a.getLast hne, (List.dropLast_concat_getLast hne).symm, ?_⟩
      have ge : row[a.length - 1]? = some (a.getLast hne) := by
        have lp : 0 < a.length := List.length_pos_iff.mpr hne
        rw [e, List.getElem?_append_left (by omega), ← List.getLast?_eq_getElem?, List.getLast?_eq_some_getLast hne]
      have gf := ix_at hf
      rw [show row.idxOf f = a.length - 1 by omega, ge] at gf
      rw [Option.some.inj gf]
      exact h2
    · refine .inr ⟨fun y hy => h1 y ((ha y).mp hy).1 ((ha y).mp hy).2, ?_⟩
      cases b with
      | nil => rfl
      | cons y b => exact absurd ((hb y).mp List.mem_cons_self).2 (h2 y ((hb y).mp List.mem_cons_self).1)
theorem loose_bars {ps : List (Str × Str)} {row : List Str} {x : Str} (hd : row.Nodup) (hx : x ∈ row) : LooseIn ps row x ↔ ∀ b ∈ row, ¬ Bars ps row x b := by
  rw [loose_ix hd]
  constructor
  · rintro ⟨_, q1, q2⟩ b hb ⟨w, h⟩
    rcases h with ⟨_, h1, h2⟩ | ⟨_, ⟨h, h1, h2, h3, h4, h5⟩, h6⟩ | ⟨_, h1, h2⟩
    · rcases q2 with ⟨f, hf, e, hf2⟩ | ⟨_, h3⟩
      · rw [h1 f hf (by omega)] at hf2
        cases hf2
      · exact h3 b hb h2
    · rcases q2 with ⟨f, hf, e, hf2⟩ | ⟨h7, _⟩
      · have := h4 f hf (by omega) hf2
        omega
      · rw [h7 h h1 h3] at h2
        cases h2
    · rw [q1 b hb h1] at h2
      cases h2
  · intro q
    have fr : ∀ y ∈ row, row.idxOf x < row.idxOf y → frd ps x y = false := fun y hy h => by
      refine Bool.eq_false_iff.mpr fun c => ?_
      exact q y hy ⟨"friend", .inr (.inr ⟨rfl, h, c⟩)⟩
    refine ⟨hx, fr, ?_⟩
    by_cases c : ∃ h ∈ row, frd ps x h = true ∧ row.idxOf h < row.idxOf x
    · refine .inl ?_
      -- the last one of these
      have : ∀ n, ∀ h ∈ row, frd ps x h = true → row.idxOf h < row.idxOf x → row.idxOf x - row.idxOf h ≤ n → ∃ f ∈ row, row.idxOf f + 1 = row.idxOf x ∧ frd ps x f = true := by
        intro n
        induction n with
        | zero => intro h _ _ h3 h4; omega
        | succ n ih =>
          intro h h1 h2 h3 h4
          by_cases c2 : ∃ g ∈ row, row.idxOf g < row.idxOf x ∧ frd ps x g = true ∧ row.idxOf h < row.idxOf g
          · obtain ⟨g, g1, g2, g3, g4⟩ := c2
            exact ih g g1 g3 g2 (by omega)
          · refine ⟨h, h1, ?_, h2⟩
            refine Classical.byContradiction fun c3 => ?_
            have hl : row.idxOf h + 1 < row.length := Nat.lt_trans (by omega : row.idxOf h + 1 < row.idxOf x) (List.idxOf_lt_length_iff.mpr hx)
            have gz := List.getElem?_eq_getElem hl
            have iz := idx_at hd gz
            refine q _ (List.mem_of_getElem? gz) ⟨"between", .inr (.inl ⟨rfl, ⟨h, h1, h2, h3, fun g g1 g2 g3 => ?_, by omega⟩, by omega⟩)⟩
            exact Nat.not_lt.mp fun g4 => c2 ⟨g, g1, g2, g3, g4⟩
      obtain ⟨h, h1, h2, h3⟩ := c
      exact this _ h h1 h2 h3 (Nat.le_refl _)
    · have no : ∀ y ∈ row, row.idxOf y < row.idxOf x → frd ps x y = false := fun y hy h => Bool.eq_false_iff.mpr fun z => c ⟨y, hy, z, h⟩
      exact .inr ⟨no, fun y hy h => q y hy ⟨"behind", .inl ⟨rfl, no, h⟩⟩⟩
/-- of the others it changes nothing whether one who can have come last is there -/
theorem barsby_rem {ps : List (Str × Str)} {row : List Str} {x u v w : Str} (hd : row.Nodup) (lx : LooseIn ps row x) (hu : u ∈ row) (hv : v ∈ row) (nu : u ≠ x) (nv : v ≠ x) : BarsBy ps (rem row x) u v w ↔ BarsBy ps row u v w := by
  obtain ⟨hx, q1, _⟩ := (loose_ix hd).mp lx
  have nf : row.idxOf x < row.idxOf u → frd ps u x = false := fun h => by rw [frd_comm]; exact q1 u hu h
  have ii : ∀ {y z : Str}, y ∈ row → z ∈ row → y ≠ x → z ≠ x → ((rem row x).idxOf y < (rem row x).idxOf z ↔ row.idxOf y < row.idxOf z) := fun h1 h2 h3 h4 => rem_ix hd h1 h2 h3 h4
  unfold BarsBy
  refine or_congr (and_congr Iff.rfl (and_congr ?_ (ii hu hv nu nv))) (or_congr (and_congr Iff.rfl (and_congr ?_ (ii hv hu nv nu))) (and_congr Iff.rfl (and_congr (ii hu hv nu nv) Iff.rfl)))
  · constructor
    · intro h y hy hl
      by_cases c : y = x
      · rw [c] at hl ⊢
        exact nf hl
      · exact h y (mem_rem.mpr ⟨hy, c⟩) ((ii hy hu c nu).mpr hl)
    · intro h y hy hl
      have m := mem_rem.mp hy
      exact h y m.1 ((ii m.1 hu m.2 nu).mp hl)
  · constructor
    · rintro ⟨h, h1, h2, h3, h4, h5⟩
      have m := mem_rem.mp h1
      refine ⟨h, m.1, h2, (ii m.1 hu m.2 nu).mp h3, fun g g1 g2 g3 => ?_, (ii m.1 hv m.2 nv).mp h5⟩
      by_cases c : g = x
      · rw [c] at g2 g3
        rw [nf g2] at g3
        cases g3
      · have := h4 g (mem_rem.mpr ⟨g1, c⟩) ((ii g1 hu c nu).mpr g2) g3
        exact Nat.not_lt.mp fun z => absurd ((ii m.1 g1 m.2 c).mpr z) (by omega)
    · rintro ⟨h, h1, h2, h3, h4, h5⟩
      have nh : h ≠ x := fun z => by
        rw [z] at h2 h3
        rw [nf h3] at h2
        cases h2
      refine ⟨h, mem_rem.mpr ⟨h1, nh⟩, h2, (ii h1 hu nh nu).mpr h3, fun g g1 g2 g3 => ?_, (ii h1 hv nh nv).mpr h5⟩
      have m := mem_rem.mp g1
      have := h4 g m.1 ((ii m.1 hu m.2 nu).mp g2) g3
      exact Nat.not_lt.mp fun z => absurd ((ii h1 m.1 nh m.2).mp z) (by omega)
theorem idx_snoc {o : List Str} {x u : Str} (hu : u ∈ o) : (o ++ [x]).idxOf u = o.idxOf u := by
  rw [List.idxOf_append, if_pos hu]
theorem idx_snoc_last {o : List Str} {x : Str} (hx : x ∉ o) : (o ++ [x]).idxOf x = o.length := by
  rw [List.idxOf_append, if_neg hx]
  simp
/-- the orders are just the lists in which each stands ahead of all that it bars -/
theorem lin_iff {ps : List (Str × Str)} (irr : Irr ps) : ∀ (n : Nat) (order row : List Str), order.length = n → order.Nodup → order.Perm row → (standOf ps order = row ↔ ∀ u ∈ row, ∀ v ∈ row, Bars ps row u v → order.idxOf u < order.idxOf v)
  | 0, order, row, hn, hd, pm => by
    have e : order = [] := List.length_eq_zero_iff.mp hn
    subst e
    have e2 : row = [] := List.nil_perm.mp pm
    subst e2
    exact ⟨(fun _ u hu => nomatch hu), fun _ => rfl⟩
  | n + 1, order, row, hn, hd, pm => by
    rcases List.eq_nil_or_concat order with z | ⟨o, x, z⟩
    · rw [z] at hn
      cases hn
    rw [List.concat_eq_append] at z
    subst z
    have hdr : row.Nodup := pm.nodup_iff.mp hd
    have hd' : (x :: o).Nodup := ((List.perm_append_singleton x o).nodup_iff).mp hd
    obtain ⟨nx, hdo⟩ := List.nodup_cons.mp hd'
    have hx : x ∈ row := pm.mem_iff.mp (by simp)
    have on : o.length = n := by
      rw [List.length_append] at hn
      have : o.length + 1 = n + 1 := hn
      omega
    have pr : o.Perm (rem row x) := by
      have p1 : (x :: o).Perm row := (List.perm_append_singleton x o).symm.trans pm
      have p2 : (rem (x :: o) x).Perm (rem row x) := p1.filter _
      have e1 : rem (x :: o) x = o := rem_split (a := []) hd'
      rw [e1] at p2
      exact p2
    have mo : ∀ u ∈ row, u ≠ x → u ∈ o := fun u hu ne => pr.mem_iff.mpr (mem_rem.mpr ⟨hu, ne⟩)
    have ih := lin_iff irr n o (rem row x) on hdo pr
    rw [standOf_app]
    constructor
    · intro e u hu v hv bv
      have hs : (x :: standOf ps o).Nodup := ((stand_perm ps o).cons x).nodup_iff.mpr hd'
      have er := come_rem (ps := ps) hs
      have lx := come_loose ps (standOf ps o) x
      rw [e] at er lx
      have nu : u ≠ x := fun z => by
        subst z
        exact (loose_bars hdr hx).mp lx v hv bv
      have uo := mo u hu nu
      rw [idx_snoc uo]
      by_cases cv : v = x
      · subst cv
        rw [idx_snoc_last nx]
        exact List.idxOf_lt_length_iff.mpr uo
      · rw [idx_snoc (mo v hv cv)]
        obtain ⟨w, bw⟩ := bv
        exact ih.mp er.symm u (mem_rem.mpr ⟨hu, nu⟩) v (mem_rem.mpr ⟨hv, cv⟩) ⟨w, (barsby_rem hdr lx hu hv nu cv).mpr bw⟩
    · intro q
      have lx : LooseIn ps row x := (loose_bars hdr hx).mpr fun b hb bb => by
        have h := q x hx b hb bb
        rw [idx_snoc_last nx] at h
        have : (o ++ [x]).idxOf b < (o ++ [x]).length := List.idxOf_lt_length_iff.mpr (pm.mem_iff.mpr hb)
        rw [List.length_append] at this
        have : (o ++ [x]).idxOf b < o.length + 1 := this
        omega
      have es : standOf ps o = rem row x := ih.mpr fun u hu v hv ⟨w, bw⟩ => by
        have mu := mem_rem.mp hu
        have mv := mem_rem.mp hv
        have h := q u mu.1 v mv.1 ⟨w, (barsby_rem hdr lx mu.1 mv.1 mu.2 mv.2).mp bw⟩
        rw [idx_snoc (mo u mu.1 mu.2), idx_snoc (mo v mv.1 mv.2)] at h
        exact h
      rw [es]
      exact loose_come irr hdr lx
end Lk
set_option maxRecDepth 100000
set_option maxHeartbeats 4000000
namespace Lk
open PySem PySem.Spec PyProof.Rows L2

/-! ### rows, be they lists or tuples -/
theorem RowAt.sq {K : PySem.W.Frag} {H : Hp} {a : Addr} {row : List Str} (h : RowAt H a row) : SqL K H a (row.map V.str) ∨ SqT K H a (row.map V.str) := h.elim (fun e => .inr e.sq) (fun e => .inl (.inl (.inl e)))
theorem RowAt.at_ {H H' : Hp} {a : Addr} {row : List Str} (h : RowAt H a row) (e : H' a = H a) : RowAt H' a row := by
  rcases h with ⟨o, h1, h2⟩ | h
  · exact .inl ⟨o, h1, e.trans h2⟩
  · exact .inr (e.trans h)
theorem RowAt.some_ {H : Hp} {a : Addr} {row : List Str} (h : RowAt H a row) : ∃ o, H a = some o := h.elim (fun ⟨_, _, e⟩ => ⟨_, e⟩) (fun e => ⟨_, e⟩)
theorem same_eq {H H' : Hp} {a : Addr} {o : HO} (s : Same H H') (h : H a = some o) : H' a = H a := (s _ _ h).trans h.symm
theorem RowAt.kept {H H' : Hp} {a : Addr} {row : List Str} (h : RowAt H a row) (s : Same H H') : H' a = H a := by
  obtain ⟨o, e⟩ := h.some_
  exact same_eq s e
theorem RowAt.oth {H H' : Hp} {a b : Addr} {row : List Str} (h : RowAt H a row) (s : Oth b H H') (hb : IsBox H b) : RowAt H' a row := h.elim (fun e => .inl (e.oth s hb)) (fun e => .inr (s _ _ (hb.ne_strs e) e))
section
variable {X : Cx}
/-- one of a row -/
def rIxR : R2 := fun x y H Q => ∃ (a : Addr) (row : List Str) (i : Int) (z : Str), x = .ref a ∧ y = .int i ∧ RowAt H a row ∧ atI (row.map V.str) i = some (.str z) ∧ Q (.str z) H
theorem ix_row : IxR X rIxR := by
  intro value slice pins s σ H x y v u Q I rx ry h hs
  obtain ⟨a, row, i, z, rfl, rfl, hrow, hz, q⟩ := h
  rcases hrow with e | e
  · exact ix_tup value slice pins s σ H _ _ v u Q I rx ry ⟨a, _, i, _, rfl, rfl, e.sq, hz, q⟩ hs
  · exact ix_list value slice pins s σ H _ _ v u Q I rx ry ⟨a, _, i, _, rfl, rfl, .inl (.inl e), hz, q⟩ hs
/-- tuple(row), list(row) -/
theorem call_tupRow : CallR X (.type "tuple") (fun xs H Q => ∃ a row, xs = [.ref a] ∧ RowAt H a row ∧ ∀ p H', Same H H' → TupAt H' p (row.map V.str) → Q (.ref p) H') := by
  intro pins s σ H xs us Q I r h
  obtain ⟨a, row, rfl, hrow, q⟩ := h
  rcases hrow with e | e
  · exact call_tupleF pins s σ H _ us Q I r ⟨a, _, rfl, .inr ⟨e.sq, q a H (Same.refl H) e⟩⟩
  · exact call_tupleF pins s σ H _ us Q I r ⟨a, _, rfl, .inl ⟨.inl (.inl e), fun l H' s' n' t' => q l H' s' t'⟩⟩
end

/-! ### list comprehensions that leave some out -/
theorem lc_filt {J : It} {G : Hp → Prop} {Y : Nat → Hp → V → Hp → Prop} {xs : List Str} (w : Walk J (xs.map V.str).length G Y) {g : TG} {tt : TT} {te : TE} {vs : List Nat} {σ : L2.St} {H1 : Hp} {D : Addr} {Qd : Hp → Prop} (p : Str → Bool) (hD : H1 D = none) (hG : ∀ H', Same H1 H' → G H')
    (hs : ∀ (i : Nat) (x : Str) (v : V) (H H' : Hp), xs[i]? = some x → Same H1 H → Y i H v H' → Same H H' ∧ g v (wipe σ vs) H' fun σ2 H2 => wipe σ2 vs = wipe σ vs ∧ tt σ2 H2 fun b H3 => b = p x ∧ Same H H3 ∧ (b = true → te σ2 H3 fun y H4 => y = .str x ∧ Same H3 H4))
    (hd : ∀ H, Same H1 H → H D = some (.lst ((xs.filter p).map V.str)) → Qd H) (hn : xs.length ≤ 1000)
    (mono : ∀ (v : V) (H : Hp) (A B : L2.St → Hp → Prop), (∀ σ2 H2, A σ2 H2 → B σ2 H2) → g v (wipe σ vs) H A → g v (wipe σ vs) H B)
    (monoT : ∀ (σ2 : L2.St) (H : Hp) (A B : Bool → Hp → Prop), (∀ b H2, A b H2 → B b H2) → tt σ2 H A → tt σ2 H B)
    (monoE : ∀ (σ2 : L2.St) (H : Hp) (A B : V → Hp → Prop), (∀ b H2, A b H2 → B b H2) → te σ2 H A → te σ2 H B) :
    ∃ W : Nat → Nat → Hp → Prop, (∃ m, W 0 m (upd H1 D (.lst []))) ∧ ∀ i m H, W i m H →
      (J.stop i H ∧ Qd H) ∨ (J.go i H ∧ ∃ Nx : Hp → Prop, (∀ H', Nx H' → ∃ m', m' < m ∧ W (i + 1) m' H') ∧ ∀ x H', J.yld i H x H' → g x (wipe σ vs) H' fun σ2 H2 => wipe σ2 vs = wipe σ vs ∧ tt σ2 H2 fun b H3 =>
        if b = true then te σ2 H3 fun y H4 => ∃ acc, H4 D = some (.lst acc) ∧ acc.length < sizeLine ∧ Nx (upd H4 D (.lst (acc ++ [y]))) else Nx H3) := by
  refine lc_it w (fun i H' => Same H1 H' ∧ H' D = some (.lst (((xs.take i).filter p).map V.str))) ⟨same_upd hD, upd_same⟩ (fun i H' _ h => hG H' h.1) ?_ ?_
  · rintro i v H H' hi ⟨s1, d1⟩ y
    rw [List.length_map] at hi
    obtain ⟨x, hx⟩ : ∃ x, xs[i]? = some x := ⟨xs[i], List.getElem?_eq_getElem hi⟩
    obtain ⟨s2, h⟩ := hs i x v H H' hx s1 y
    have ft : (xs.take (i + 1)).filter p = (xs.take i).filter p ++ if p x = true then [x] else [] := by
      rw [List.take_add_one, hx, List.filter_append]
      show _ ++ List.filter p [x] = _
      rw [List.filter_cons, List.filter_nil]
    refine mono v H' _ _ (fun σ2 H2 a => ⟨a.1, monoT σ2 H2 _ _ (fun b H3 z => ?_) a.2⟩) h
    obtain ⟨eb, s3, ht⟩ := z
    subst eb
    refine ite2 (fun c => ?_) (fun c => ?_)
    · rw [if_pos c] at ft
      refine monoE σ2 H3 _ _ (fun y' H4 u => ?_) (ht c)
      obtain ⟨rfl, s4⟩ := u
      refine ⟨_, s4 _ _ (s3 _ _ d1), ?_, fun b o e => ?_, ?_⟩
      · rw [List.length_map]
        exact small1000 (Nat.le_trans (List.length_filter_le _ _) (by rw [List.length_take]; omega))
      · rw [upd_ne (ne_of_none e hD)]
        exact s4 _ _ (s3 _ _ (s1 _ _ e))
      · rw [upd_same, ft, List.map_append]
        rfl
    · rw [if_neg c, List.append_nil] at ft
      exact ⟨s1.trans s3, by rw [ft]; exact s3 _ _ d1⟩
  · rintro H ⟨s1, d1⟩
    rw [List.length_map, List.take_of_length_le (Nat.le_refl _)] at d1
    exact hd H s1 d1
end Lk
set_option maxRecDepth 100000
set_option maxHeartbeats 4000000
namespace Lk
open PySem PySem.Spec PyProof.Rows L2

/-! ### list comprehensions, by what comes of each one -/
section
variable {J : It} {n : Nat} {G : Hp → Prop} {Y : Nat → Hp → V → Hp → Prop} {g : TG} {tt : TT} {te : TE} {vs : List Nat} {σ : L2.St} {H1 : Hp} {D : Addr} {Qd : Hp → Prop}
/-- one of each -/
theorem lc_list {α : Type} (w : Walk J n G Y) (xs : List α) (f : α → V) (hl : xs.length = n) (hn : n ≤ 1000) (hD : H1 D = none) (hG : ∀ H', Same H1 H' → G H')
    (hs : ∀ (i : Nat) (x : α) (v : V) (H H' : Hp) (k : V → Hp → Prop), xs[i]? = some x → Same H1 H → Y i H v H' → (∀ H4, Same H H4 → k (f x) H4) → g v (wipe σ vs) H' fun σ2 H2 => wipe σ2 vs = wipe σ vs ∧ te σ2 H2 k)
    (hd : ∀ H, Same H1 H → H D = some (.lst (xs.map f)) → Qd H) :
    ∃ W : Nat → Nat → Hp → Prop, (∃ m, W 0 m (upd H1 D (.lst []))) ∧ ∀ i m H, W i m H →
      (J.stop i H ∧ Qd H) ∨ (J.go i H ∧ ∃ Nx : Hp → Prop, (∀ H', Nx H' → ∃ m', m' < m ∧ W (i + 1) m' H') ∧ ∀ x H', J.yld i H x H' → g x (wipe σ vs) H' fun σ2 H2 => wipe σ2 vs = wipe σ vs ∧ tYes σ2 H2 fun b H3 =>
        if b = true then te σ2 H3 fun y H4 => ∃ acc, H4 D = some (.lst acc) ∧ acc.length < sizeLine ∧ Nx (upd H4 D (.lst (acc ++ [y]))) else Nx H3) := by
  refine lc_it w (fun i H' => Same H1 H' ∧ H' D = some (.lst ((xs.take i).map f))) ⟨same_upd hD, upd_same⟩ (fun i H' _ h => hG H' h.1) ?_ (fun H h => hd H h.1 ?_)
  · rintro i v H H' hi ⟨s1, d1⟩ y
    obtain ⟨x, hx⟩ : ∃ x, xs[i]? = some x := ⟨xs[i]'(by omega), List.getElem?_eq_getElem (by omega)⟩
    refine hs i x v H H' _ hx s1 y fun H4 s4 => ?_
    refine ⟨_, s4 _ _ d1, ?_, fun b o e => ?_, ?_⟩
    · rw [List.length_map, List.length_take]
      exact small1000 (by omega)
    · rw [upd_ne (ne_of_none e hD)]
      exact s4 _ _ (s1 _ _ e)
    · rw [upd_same, List.take_add_one, hx, List.map_append]
      rfl
  · have d1 := h.2
    rw [List.take_of_length_le (by omega)] at d1
    exact d1
end
end Lk
set_option maxRecDepth 100000
set_option maxHeartbeats 4000000
namespace Lk
open PySem PySem.Spec PyProof.Rows L2
/-! ### the set of a tuple of texts -/
section
variable {P : Program} {w : World} {A : Around} {E : Value → Shared → Prop} {s : Shared}
end
section
variable {X : Cx}
end
end Lk
set_option maxRecDepth 100000
set_option maxHeartbeats 4000000
namespace Lk
open PySem PySem.Spec PyProof.Rows L2
theorem ord_ring {ps : List (Str × Str)} {row : List Str} (irr : Irr ps) (hd : row.Nodup) (ne : goneR ps [] row ≠ []) : RingOk ps row (goneR ps [] row) (ringOf ps row (goneR ps [] row)) := by
  obtain ⟨r1, r2, _⟩ := gone_red (stay := []) irr row.length row rfl hd
  exact ringOf_ok hd r1 r2 ne
theorem ord_len {ps : List (Str × Str)} {row : List Str} {bs : List B3} (irr : Irr ps) (hd : row.Nodup) (ne : goneR ps [] row ≠ []) (e : bs.map (·.2) = ringOf ps row (goneR ps [] row)) : bs.length ≤ row.length := by
  obtain ⟨r1, _, _⟩ := gone_red (stay := []) irr row.length row rfl hd
  have h := ring_len (ord_ring irr hd ne)
  rw [← e, List.length_map] at h
  exact Nat.le_trans h r1.len
theorem OrdAt.lst {H : Hp} {p : Addr} {w : Str} {ps : List (Str × Str)} {row : List Str} (irr : Irr ps) (hd : row.Nodup) (hn : row.length ≤ 100) (h : OrdAt H p w ps row) : ∃ xs, H p = some (.lst xs) ∧ xs.length ≤ 100 ∧
    (∀ ke H', Same H H' → H' ke = some (.lst xs) → OrdAt H' ke w ps row) ∧ (∀ ke o', ke ≠ p → H ke = some (.lst xs) → OrdAt (upd H p o') ke w ps row) := by
  obtain ⟨_, _, gl⟩ := gone_red (stay := []) irr row.length row rfl hd
  rcases h with ⟨a1, a2, a3⟩ | ⟨a1, a2, bs, a3, a4, a5⟩
  · exact ⟨_, a3, by rw [List.length_map, List.length_reverse]; omega, fun ke H' s e => .inl ⟨a1, a2, e⟩, fun ke o' ne e => .inl ⟨a1, a2, (upd_ne ne).trans e⟩⟩
  · have bl := ord_len irr hd a1 a5
    refine ⟨_, a3, by show (bs.map _).length ≤ 100; rw [List.length_map]; omega, fun ke H' s e => .inr ⟨a1, a2, bs, e, a4.same s, a5⟩, fun ke o' ne e => .inr ⟨a1, a2, bs, (upd_ne ne).trans e, fun c hc => ?_, a5⟩⟩
    exact (upd_ne (ne_of (a4 c hc) a3 (fun z => nomatch z))).trans (a4 c hc)
end Lk
set_option maxRecDepth 100000
set_option maxHeartbeats 4000000
namespace Lk
open PySem PySem.Spec PyProof.Rows L2

/-! ### letters -/
theorem letter_ge {c : Nat} (h : 97 ≤ c) : (!decide (([c] : List Nat) < (("a" : Str)).cps.toList)) = true := by
  have e : (("a" : Str)).cps.toList = [97] := by decide +kernel
  rw [e]
  have : ¬ ([c] : List Nat) < [97] := fun z => by
    rcases List.cons_lt_cons_iff.mp z with z | ⟨_, z⟩
    · omega
    · exact absurd z (List.not_lt_nil _)
  rw [decide_eq_false this]
  rfl
theorem letter_le {c : Nat} (h : c ≤ 122) : (!decide ((("z" : Str)).cps.toList < ([c] : List Nat))) = true := by
  have e : (("z" : Str)).cps.toList = [122] := by decide +kernel
  rw [e]
  have : ¬ ([122] : List Nat) < [c] := fun z => by
    rcases List.cons_lt_cons_iff.mp z with z | ⟨_, z⟩
    · omega
    · exact absurd z (List.not_lt_nil _)
  rw [decide_eq_false this]
  rfl

def rLeS : R2 := fun x y H Q => ∃ i j, x = .str i ∧ y = .str j ∧ Q (.bl (!decide (j.cps.toList < i.cps.toList))) H
theorem op_leS {X : Cx} : OpR X (compareOp .LtE) rLeS := op_le_str
/-! ### promises of the small judges -/
def LinksOk (H : Hp) (p : Addr) (bs : List B3) : Prop := H p = some (.lst (refs bs)) ∧ PairsAt H bs ∧ (∀ b ∈ bs, NameOk b.2.1) ∧ (bs.map (·.2.1)).Nodup ∧ bs ≠ [] ∧ bs.length ≤ 100
theorem LinksOk.same {H H' : Hp} {p : Addr} {bs : List B3} (s : Same H H') (h : LinksOk H p bs) : LinksOk H' p bs := ⟨s _ _ h.1, h.2.1.same s, h.2.2⟩
end Lk
set_option maxRecDepth 100000
set_option maxHeartbeats 4000000
namespace Lk
open PySem PySem.Spec PyProof.Rows L2

/-! ### whoever comes, the same are left -/
/-- what order_of told, and who came since -/
def MatAt (H : Hp) (p : Addr) (word : Str) (ps : List (Str × Str)) (row more : List Str) : Prop :=
  (word = "ring" ∧ goneR ps [] row ≠ [] ∧ ∃ bs : List B3, H p = some (.lst (refs bs)) ∧ PairsAt H bs ∧ bs.map (·.2) = ringOf ps row (goneR ps [] row)) ∨ (word = "order" ∧ goneR ps [] row = [] ∧ H p = some (.lst (((goneO ps [] row).reverse ++ more).map V.str)))
theorem MatAt.same {H H' : Hp} {p : Addr} {word : Str} {ps : List (Str × Str)} {row more : List Str} (s : Same H H') (h : MatAt H p word ps row more) : MatAt H' p word ps row more :=
  h.elim (fun ⟨h1, h2, bs, h3, h4, h5⟩ => .inl ⟨h1, h2, bs, s _ _ h3, h4.same s, h5⟩) (fun ⟨h1, h2, h3⟩ => .inr ⟨h1, h2, s _ _ h3⟩)
theorem OrdAt.word {H : Hp} {p : Addr} {w : Str} {ps : List (Str × Str)} {row : List Str} (h : OrdAt H p w ps row) : (w = "ring" ∧ goneR ps [] row ≠ []) ∨ (w = "order" ∧ goneR ps [] row = []) := h.elim (fun h => .inr ⟨h.2.1, h.1⟩) (fun h => .inl ⟨h.2.1, h.1⟩)
end Lk
set_option maxRecDepth 100000
set_option maxHeartbeats 4000000
namespace Lk
open PySem PySem.Spec PyProof.Rows L2

/-! ### deeds: nobody: a serving; somebody: its coming -/
abbrev Deed := Option Str
def deedL : Deed → List Str
  | none => ["serve"]
  | some x => ["come", x]
abbrev LD := Addr × Deed
def refsD (ds : List LD) : List V := ds.map fun q => V.ref q.1
def DeedsAt (H : Hp) (ds : List LD) : Prop := ∀ q ∈ ds, TupAt H q.1 ((deedL q.2).map V.str)
theorem DeedsAt.same {H H' : Hp} {ds : List LD} (s : Same H H') (h : DeedsAt H ds) : DeedsAt H' ds := fun q hq => (h q hq).same s
/-- the row and those who were served, behind one deed -/
def stepD (ps : List (Str × Str)) (st : List Str × List Str) (met : List Str) : Deed → Option (List Str × List Str)
  | none => if st.1 = [] then none else some (st.1.drop 1, st.2 ++ st.1.take 1)
  | some x => if x ∈ met then none else some (comeTo ps st.1 x, st.2)
def comers (ds : List Deed) : List Str := ds.filterMap id
def goD (ps : List (Str × Str)) : List Deed → List Str × List Str → List Str → Option (List Str × List Str)
  | [], st, _ => some st
  | d :: ds, st, met => match stepD ps st met d with
    | none => none
    | some st' => goD ps ds st' (met ++ d.toList)
theorem goD_snoc (ps : List (Str × Str)) (d : Deed) : ∀ (ds : List Deed) (st : List Str × List Str) (met : List Str), goD ps (ds ++ [d]) st met = match goD ps ds st met with | none => none | some st' => stepD ps st' (met ++ comers ds) d
  | [], st, met => by
    show (match stepD ps st met d with | none => none | some st' => some st') = stepD ps st (met ++ comers []) d
    rw [show met ++ comers [] = met from List.append_nil met]
    cases stepD ps st met d <;> rfl
  | e :: ds, st, met => by
    show (match stepD ps st met e with | none => none | some st' => goD ps (ds ++ [d]) st' (met ++ e.toList)) = match (match stepD ps st met e with | none => none | some st' => goD ps ds st' (met ++ e.toList)) with | none => none | some st' => stepD ps st' (met ++ comers (e :: ds)) d
    cases h : stepD ps st met e with
    | none => rfl
    | some st' =>
      show goD ps (ds ++ [d]) st' (met ++ e.toList) = match goD ps ds st' (met ++ e.toList) with | none => none | some st'' => stepD ps st'' (met ++ comers (e :: ds)) d
      rw [goD_snoc ps d ds st' (met ++ e.toList)]
      have ec : met ++ e.toList ++ comers ds = met ++ comers (e :: ds) := by
        rw [List.append_assoc]
        cases e with
        | none => rfl
        | some x => rfl
      rw [ec]
/-- nobody is in it twice, and none but those who came or were there -/
theorem go_perm {ps : List (Str × Str)} : ∀ (ds : List Deed) (st : List Str × List Str) (met : List Str) (st' : List Str × List Str), goD ps ds st met = some st' → (st'.2 ++ st'.1).Perm (comers ds ++ (st.2 ++ st.1))
  | [], st, met, st', h => by
    have e : st = st' := Option.some.inj h
    subst e
    exact List.Perm.refl _
  | d :: ds, st, met, st', h => by
    have h' : (match stepD ps st met d with | none => none | some s2 => goD ps ds s2 (met ++ d.toList)) = some st' := h
    cases e : stepD ps st met d with
    | none => rw [e] at h'; cases h'
    | some s2 =>
      rw [e] at h'
      have ih := go_perm ds s2 (met ++ d.toList) st' h'
      refine ih.trans ?_
      cases d with
      | none =>
        have e2 : (if st.1 = [] then none else some (st.1.drop 1, st.2 ++ st.1.take 1)) = some s2 := e
        by_cases c : st.1 = []
        · rw [if_pos c] at e2
          cases e2
        · rw [if_neg c] at e2
          have e3 := Option.some.inj e2
          subst e3
          show (comers ds ++ ((st.2 ++ st.1.take 1) ++ st.1.drop 1)).Perm (comers ds ++ (st.2 ++ st.1))
          rw [List.append_assoc, List.take_append_drop]
      | some x =>
        have e2 : (if x ∈ met then none else some (comeTo ps st.1 x, st.2)) = some s2 := e
        by_cases c : x ∈ met
        · rw [if_pos c] at e2
          cases e2
        · rw [if_neg c] at e2
          have e3 := Option.some.inj e2
          subst e3
          show (comers ds ++ (st.2 ++ comeTo ps st.1 x)).Perm (x :: comers ds ++ (st.2 ++ st.1))
          have p1 : (st.2 ++ comeTo ps st.1 x).Perm (x :: (st.2 ++ st.1)) := (List.Perm.append_left _ (come_perm ps st.1 x)).trans List.perm_middle
          exact (List.Perm.append_left _ p1).trans List.perm_middle
/-! ### promises -/
end Lk
set_option maxRecDepth 100000
set_option maxHeartbeats 4000000
namespace Lk
open PySem PySem.Spec PyProof.Rows L2

/-! ### back through servings -/
/-- no friend of it stands behind it -/
def NoBeh (ps : List (Str × Str)) (row : List Str) (x : Str) : Prop := ∃ c d, row = c ++ x :: d ∧ ∀ y ∈ d, frd ps x y = false
theorem LooseIn.nb {ps : List (Str × Str)} {row : List Str} {x : Str} (h : LooseIn ps row x) : NoBeh ps row x := by
  obtain ⟨a, b, e, h1, _⟩ := h
  exact ⟨a, b, e, h1⟩
theorem NoBeh.mem {ps : List (Str × Str)} {row : List Str} {x : Str} (h : NoBeh ps row x) : x ∈ row := by
  obtain ⟨a, b, rfl, _⟩ := h
  simp
theorem NoBeh.cons {ps : List (Str × Str)} {row : List Str} {x : Str} (y : Str) (h : NoBeh ps row x) : NoBeh ps (y :: row) x := by
  obtain ⟨a, b, rfl, h1⟩ := h
  exact ⟨y :: a, b, rfl, h1⟩
theorem NoBeh.rem_ {ps : List (Str × Str)} {row : List Str} {x y : Str} (h : NoBeh ps row x) (ne : x ≠ y) : NoBeh ps (rem row y) x := by
  obtain ⟨a, b, rfl, h1⟩ := h
  refine ⟨rem a y, rem b y, ?_, fun z hz => h1 z (List.mem_filter.mp hz).1⟩
  unfold rem
  rw [List.filter_append, List.filter_cons]
  simp [ne]
theorem diamondN {ps : List (Str × Str)} {row : List Str} {x y : Str} (hd : row.Nodup) (hx : LooseIn ps row x) (hy : NoBeh ps row y) (ne : x ≠ y) : LooseIn ps (rem row y) x := by
  obtain ⟨a, b, e, h1, h2⟩ := hx
  have my : y ∈ row := hy.mem
  obtain ⟨c, d, e', g1⟩ := hy
  have my' : y ∈ a ∨ y ∈ b := by
    rw [e] at my
    rcases List.mem_append.mp my with z | z
    · exact .inl z
    · rcases List.mem_cons.mp z with z | z
      · exact absurd z.symm ne
      · exact .inr z
  rcases my' with m | m
  · obtain ⟨a1, a2, rfl⟩ := List.append_of_mem m
    have e2 : row = a1 ++ y :: (a2 ++ x :: b) := by rw [e]; simp
    have er : rem row y = (a1 ++ a2) ++ x :: b := by
      rw [e2, rem_split (by rw [← e2]; exact hd)]
      simp
    refine ⟨a1 ++ a2, b, er, h1, ?_⟩
    obtain ⟨_, u2⟩ := split_uniq hd e2 e'
    rcases h2 with ⟨a', f, ea, hf⟩ | ⟨na, nb⟩
    · rcases List.eq_nil_or_concat a2 with z | ⟨l, g, z⟩
      · subst z
        have q := List.append_inj' ea (by rfl)
        have ey : y = f := (List.cons.inj q.2).1
        have bad := g1 x (by rw [← u2]; simp)
        rw [frd_comm, ey, hf] at bad
        cases bad
      · rw [List.concat_eq_append] at z
        subst z
        have ea' : (a1 ++ y :: l) ++ [g] = a' ++ [f] := by rw [← ea]; simp
        have q := List.append_inj' ea' rfl
        have eg : g = f := (List.cons.inj q.2).1
        exact .inl ⟨a1 ++ l, g, by simp, by rw [eg]; exact hf⟩
    · exact .inr ⟨fun z hz => na z (by
        rcases List.mem_append.mp hz with w | w
        · exact List.mem_append_left _ w
        · exact List.mem_append_right _ (List.mem_cons_of_mem _ w)), nb⟩
  · obtain ⟨b1, b2, rfl⟩ := List.append_of_mem m
    have e2 : row = (a ++ x :: b1) ++ y :: b2 := by rw [e]; simp
    have er : rem row y = a ++ x :: (b1 ++ b2) := by
      rw [e2, rem_split (by rw [← e2]; exact hd)]
      simp
    refine ⟨a, b1 ++ b2, er, fun z hz => h1 z (by
        rcases List.mem_append.mp hz with w | w
        · exact List.mem_append_left _ w
        · exact List.mem_append_right _ (List.mem_cons_of_mem _ w)), ?_⟩
    rcases h2 with h | ⟨_, z⟩
    · exact .inl h
    · exact absurd z (by simp)
/-- back from a row, `m` served, to one with `m0` served: the last deed first; whoever has to stay at that moment stays -/
inductive Way (ps : List (Str × Str)) (stay : Nat → List Str) (sv : List Str) (m0 : Nat) : Nat → List Str → List Deed → List Str → Prop where
  | done (row : List Str) : Way ps stay sv m0 m0 row [] row
  | go {m : Nat} {row : List Str} {ds : List Deed} {fin : List Str} (x : Str) (h : LooseIn ps row x) (hs : x ∉ stay m) (t : Way ps stay sv m0 m (rem row x) ds fin) : Way ps stay sv m0 m row (some x :: ds) fin
  | back {m : Nat} {row : List Str} {ds : List Deed} {fin : List Str} (y : Str) (h : sv[m]? = some y) (t : Way ps stay sv m0 m (y :: row) ds fin) : Way ps stay sv m0 (m + 1) row (none :: ds) fin
section
variable {ps : List (Str × Str)} {stay stay' : Nat → List Str} {sv : List Str} {m0 m1 m : Nat} {row mid fin : List Str} {ds ds' : List Deed}
theorem Way.le (h : Way ps stay sv m0 m row ds fin) : m0 ≤ m := by
  induction h with
  | done _ => exact Nat.le_refl _
  | go x h hs t ih => exact ih
  | back y h t ih => omega
theorem Way.trans (h : Way ps stay sv m1 m row ds mid) : Way ps stay sv m0 m1 mid ds' fin → Way ps stay sv m0 m row (ds ++ ds') fin := by
  induction h with
  | done _ => exact id
  | go x h hs t ih => exact fun k => .go x h hs (ih k)
  | back y h t ih => exact fun k => .back y h (ih k)
theorem line_back {y : Str} (h : sv[m]? = some y) : sv.take (m + 1) ++ row = sv.take m ++ y :: row := by
  rw [List.take_add_one, h]
  simp
theorem nd_right {a b : List Str} (h : (a ++ b).Nodup) : b.Nodup := (List.nodup_append.mp h).2.1
theorem nd_rem {a b : List Str} {x : Str} (h : (a ++ b).Nodup) : (a ++ rem b x).Nodup := h.sublist (List.Sublist.append_left List.filter_sublist _)
theorem Way.sub (h : Way ps stay sv m0 m row ds fin) : ∀ x ∈ fin, x ∈ sv.take m ++ row := by
  induction h with
  | done _ => exact fun x hx => List.mem_append_right _ hx
  | go y h hs t ih =>
    intro x hx
    rcases List.mem_append.mp (ih x hx) with z | z
    · exact List.mem_append_left _ z
    · exact List.mem_append_right _ (List.mem_filter.mp z).1
  | back y h t ih =>
    intro x hx
    rw [line_back h]
    exact ih x hx
theorem rem_no {row : List Str} {x : Str} (h : x ∉ row) : rem row x = row := List.filter_eq_self.mpr fun y hy => by
  have : ¬ y = x := fun z => h (z ▸ hy)
  simp [this]
/-- who could go once may be gone at once -/
theorem Way.swap (h : Way ps stay sv m0 m row ds fin) : (sv.take m ++ row).Nodup → ∀ x, NoBeh ps row x → ∃ ds', Way ps stay sv m0 m (rem row x) ds' (rem fin x) := by
  induction h with
  | done row => exact fun _ x _ => ⟨[], .done _⟩
  | @go m row ds fin y hy hs t ih =>
    intro hd x hx
    by_cases e : y = x
    · subst e
      have ny : y ∉ fin := fun z => by
        have q := t.sub y z
        have dj := (List.nodup_append.mp hd).2.2
        rcases List.mem_append.mp q with u | u
        · exact dj y u y hx.mem rfl
        · have := (List.mem_filter.mp u).2
          simp at this
      rw [rem_no ny]
      exact ⟨ds, t⟩
    · obtain ⟨ds', w⟩ := ih (nd_rem hd) x (hx.rem_ (fun z => e z.symm))
      rw [rem_comm] at w
      exact ⟨some y :: ds', .go y (diamondN (nd_right hd) hy hx e) hs w⟩
  | @back m row ds fin y hy t ih =>
    intro hd x hx
    rw [line_back hy] at hd
    have ne : y ≠ x := fun z => by
      have := (List.nodup_cons.mp (nd_right hd)).1
      exact this (z ▸ hx.mem)
    obtain ⟨ds', w⟩ := ih hd x (hx.cons y)
    have e : rem (y :: row) x = y :: rem row x := by
      unfold rem
      rw [List.filter_cons]
      simp [ne]
    rw [e] at w
    exact ⟨none :: ds', .back y hy w⟩
/-- whoever can go goes, at every moment -/
def trace (ps : List (Str × Str)) (stay : Nat → List Str) (sv : List Str) : Nat → List Str → List Deed × List Str
  | 0, row => ((goneO ps (stay 0) row).map some, goneR ps (stay 0) row)
  | m + 1, row => ((goneO ps (stay (m + 1)) row).map some ++ none :: (trace ps stay sv m (sv.getD m "" :: goneR ps (stay (m + 1)) row)).1, (trace ps stay sv m (sv.getD m "" :: goneR ps (stay (m + 1)) row)).2)
theorem Red.nd2 {s : List Str} {a row n : List Str} (r : Red ps s row n) : (a ++ row).Nodup → (a ++ n).Nodup := by
  induction r with
  | done _ => exact id
  | go x _ _ t ih => exact fun h => ih (nd_rem h)
/-! ### histories are such ways -/
def Free (stay : Nat → List Str) : Nat → List Deed → Prop
  | _, [] => True
  | m, none :: ds => Free stay (m + 1) ds
  | m, some x :: ds => x ∉ stay m ∧ Free stay m ds
theorem go_pre : ∀ (ds : List Deed) {st : List Str × List Str} {met : List Str} {st' : List Str × List Str}, goD ps ds st met = some st' → ∃ e, st'.2 = st.2 ++ e
  | [], st, met, st', h => by
    have e : st = st' := Option.some.inj h
    subst e
    exact ⟨[], by simp⟩
  | d :: ds, st, met, st', h => by
    have h' : (match stepD ps st met d with | none => none | some s2 => goD ps ds s2 (met ++ d.toList)) = some st' := h
    cases e : stepD ps st met d with
    | none => rw [e] at h'; cases h'
    | some s2 =>
      rw [e] at h'
      obtain ⟨e3, q⟩ := go_pre ds h'
      cases d with
      | none =>
        have e2 : (if st.1 = [] then none else some (st.1.drop 1, st.2 ++ st.1.take 1)) = some s2 := e
        by_cases c : st.1 = []
        · rw [if_pos c] at e2
          cases e2
        · rw [if_neg c] at e2
          have e5 := Option.some.inj e2
          subst e5
          exact ⟨st.1.take 1 ++ e3, by rw [q, List.append_assoc]⟩
      | some x =>
        have e2 : (if x ∈ met then none else some (comeTo ps st.1 x, st.2)) = some s2 := e
        by_cases c : x ∈ met
        · rw [if_pos c] at e2
          cases e2
        · rw [if_neg c] at e2
          have e5 := Option.some.inj e2
          subst e5
          exact ⟨e3, q⟩
theorem go_way : ∀ (ds : List Deed) {st0 gn0 met st gn : List Str}, goD ps ds (st0, gn0) met = some (st, gn) → (∀ x ∈ gn0 ++ st0, x ∈ met) → (gn0 ++ st0).Nodup → Free stay gn0.length ds → (∃ more, sv = gn ++ more) → Way ps stay sv gn0.length gn.length st ds.reverse st0
  | [], st0, gn0, met, st, gn, h, _, _, _, _ => by
    have e : (st0, gn0) = (st, gn) := Option.some.inj h
    have e1 : st0 = st := congrArg Prod.fst e
    have e2 : gn0 = gn := congrArg Prod.snd e
    subst e1
    subst e2
    exact .done _
  | none :: ds, st0, gn0, met, st, gn, h, hm, hd, hf, hs => by
    have h' : (match (if st0 = [] then none else some (st0.drop 1, gn0 ++ st0.take 1)) with | none => none | some s2 => goD ps ds s2 (met ++ [])) = some (st, gn) := h
    cases st0 with
    | nil =>
      rw [if_pos rfl] at h'
      cases h'
    | cons y st1 =>
      rw [if_neg (by simp), List.append_nil] at h'
      have h2 : goD ps ds (st1, gn0 ++ [y]) met = some (st, gn) := h'
      have hd2 : ((gn0 ++ [y]) ++ st1).Nodup := by
        rw [List.append_assoc]
        exact hd
      have l1 : (gn0 ++ [y]).length = gn0.length + 1 := by simp
      have w := go_way ds h2 (fun x hx => hm x (by simpa using hx)) hd2 (by rw [l1]; exact hf) hs
      rw [l1] at w
      obtain ⟨e, q⟩ := go_pre ds h2
      obtain ⟨more, hmore⟩ := hs
      have at_ : sv[gn0.length]? = some y := by
        rw [hmore, show gn = (gn0 ++ [y]) ++ e from q]
        simp
      rw [List.reverse_cons]
      exact w.trans (.back y at_ (.done _))
  | some x :: ds, st0, gn0, met, st, gn, h, hm, hd, hf, hs => by
    have h' : (match (if x ∈ met then none else some (comeTo ps st0 x, gn0)) with | none => none | some s2 => goD ps ds s2 (met ++ [x])) = some (st, gn) := h
    by_cases c : x ∈ met
    · rw [if_pos c] at h'
      cases h'
    · rw [if_neg c] at h'
      have h2 : goD ps ds (comeTo ps st0 x, gn0) (met ++ [x]) = some (st, gn) := h'
      have nx : x ∉ gn0 ++ st0 := fun z => c (hm x z)
      have pm : (gn0 ++ comeTo ps st0 x).Perm (x :: (gn0 ++ st0)) := (List.Perm.append_left _ (come_perm ps st0 x)).trans List.perm_middle
      have hd2 : (gn0 ++ comeTo ps st0 x).Nodup := pm.nodup_iff.mpr (List.nodup_cons.mpr ⟨nx, hd⟩)
      have w := go_way ds h2 (fun y hy => by
        rcases List.mem_cons.mp (pm.mem_iff.mp hy) with z | z
        · rw [z]
          simp
        · exact List.mem_append_left _ (hm y z)) hd2 hf.2 hs
      rw [List.reverse_cons]
      refine w.trans (.go x (come_loose ps st0 x) hf.1 ?_)
      rw [come_rem (List.nodup_cons.mpr ⟨fun z => nx (List.mem_append_right _ z), nd_right hd⟩)]
      exact .done _
end
/-! ### traced_back -/
def waitN (ws : Option (Str × Nat)) (m : Nat) : List Str := match ws with
  | none => []
  | some (w, n) => if n = m then [] else [w]
def stayF (elders : List Str) (ws : Option (Str × Nat)) (m : Nat) : List Str := elders ++ waitN ws m
/-- they all stand in the line, one behind the other -/
def InLine (line elders : List Str) : Prop := (∀ x ∈ elders, x ∈ line) ∧ elders.Pairwise fun x y => line.idxOf x ≤ line.idxOf y
end Lk
set_option maxRecDepth 100000
set_option maxHeartbeats 4000000
namespace Lk
open PySem PySem.Spec PyProof.Rows L2
/-- y = {k: v for ..}: what is told is stored within the comprehension's frame -/
theorem ps_setDc {X : Cx} {i : Nat} {y : Str} {py : Pos} {kx vx tg iter : Expr} {ifs : List Expr} {scope : Scope} {own : List (Str × Nat)} {pos spos : Pos} {wi : TI} {g : TG} {tt : TT} {tk tv : TE} (hc : X.calm = true) (hN : X.N.Nodup) (hy : X.N[i]? = some y) (hyl : List.lookup y X.env.scope.names = some NameKind.local)
    (hsw : swapsWith (Expr.DictComp kx vx [{ target := tg, iter := iter, ifs := ifs, is_async := 0 }] scope pos) (some (Expr.Name y py)) spos.line X.env = pure true)
    (hi : PI X tg iter wi) (ok : BlkOk X.N X.env.scope scope own)
    (hg : ∀ (s : Shared) (H : Hp) (C : Addr) (cl : List (Str × Addr)) (fp : List Addr), PG (X.blk s H scope (compEnvC scope cl C X.env) fp) tg g)
    (ht : ∀ (s : Shared) (H : Hp) (C : Addr) (cl : List (Str × Addr)) (fp : List Addr), PTs (X.blk s H scope (compEnvC scope cl C X.env) fp) ifs tt)
    (hk : ∀ (s : Shared) (H : Hp) (C : Addr) (cl : List (Str × Addr)) (fp : List Addr), PE (X.blk s H scope (compEnvC scope cl C X.env) fp) kx tk)
    (hv : ∀ (s : Shared) (H : Hp) (C : Addr) (cl : List (Str × Addr)) (fp : List Addr), PE (X.blk s H scope (compEnvC scope cl C X.env) fp) vx tv)
    (hs : ∀ (x : Value), foldedSetIterable iter X.env x = pure x := by intro _; rfl) :
    PS X (Stmt.Assign [Expr.Name y py] (Expr.DictComp kx vx [{ target := tg, iter := iter, ifs := ifs, is_async := 0 }] scope pos) spos) (tAsg (tDc wi g tt tk tv (own.map (·.2))) (gName i)) := by
  refine ⟨fun pins s σ H D I h => ?_⟩
  rw [exec_Assign_Name_used y py _ spos hsw]
  refine wpAny_bind (wpAny_standAt (wpAny_bind ?_))
  refine wpAny_bind (thn (dc_core hc hN I hi ok hg ht hk hv hs h fun L C s' m H' I' q hn f => ?_) fun x s' hq => wpAny_pure (wpAny_pure hq))
  refine wpAny_assign_Name (store_ok2 (v := .ref L) I' hN hy (Or.inl hyl) rfl (fun s2 I2 x => ?_) (Or.inr hyl))
  obtain ⟨a, sb, ha⟩ := x
  obtain ⟨f0, f1, f2, f3, f4, f5⟩ := f
  have haC : C ≠ a := ha.elim (fun z => by rw [z]; exact f1) (fun z e => f4 y a z e.symm)
  exact ⟨m, hn.sameBut sb haC, fun h3 sb3 => ⟨σ.set i (some (.ref L)), H', I2.turned (fun b o hb e => (sb3.2 b hb).trans e) f0 f1 f3 f4 f5, q⟩⟩
end Lk
set_option maxRecDepth 100000
set_option maxHeartbeats 4000000
namespace Lk
open PySem PySem.Spec PyProof.Rows L2
/-! ### deeds that can be done -/
/-! ### ways, one behind the other -/
end Lk
set_option maxRecDepth 100000
set_option maxHeartbeats 4000000
namespace Lk
open PySem PySem.Spec PyProof.Rows L2
/-! ### set(ns), ns a list of ints, none of them twice -/
section
variable {P : Program} {w : World} {A : Around} {E : Value → Shared → Prop} {s : Shared}
end
section
variable {X : Cx}
end
end Lk
set_option maxRecDepth 100000
set_option maxHeartbeats 4000000
namespace Lk
open PySem PySem.Spec PyProof.Rows L2
/-! ### a def whose last parameter, by its name alone, has a default: a bare tuple -/
structure CalK (P : Program) (w : World) (K : PySem.W.Frag) (mg : Str → Option Value) (base : Heap) (k : Nat) (x : Str) (ps : List Str) (n : Nat) (kw : Str) (sp : Sp) (E : Addr) : Prop where
  ex : ∃ f fd, FnOk P w K mg base CX0 k f fd ps sp ∧ mg x = some (.ref f) ∧ PySem.W.keepIn K (.ref f) = true ∧ KBn K fd ps n [kw] (fun us ws => us ++ ws) (fun vs zs => vs ++ zs) ∧ ∃ ds, Vals [V.ref E] ds ∧ Binds K fd ps ds
  emp : ∃ (o : Obj) (n : Nat), K.lookup E = some o ∧ o.cls = .type "tuple" ∧ o.data = .seq #[] n
theorem CalK.but {P : Program} {w : World} {K : PySem.W.Frag} {mg : Str → Option Value} {base : Heap} {k n : Nat} {x kw : Str} {ps : List Str} {sp : Sp} {E : Addr} (C : CalK P w K mg base k x ps n kw sp E) (H : Hp) : ButKeeps K H E [] := by
  obtain ⟨o, n, h1, h2, h3⟩ := C.emp
  exact fun _ _ => .inr (.inr ⟨o, #[], n, h1, h2, h3, Nat.zero_le _, .nil⟩)
section
variable {X : Cx} {k m n : Nat} {x kw : Str} {ps : List Str} {sp : Sp} {D : Addr} {p pos : Pos} {e : Expr} {es : List Expr} {t tk : TA} {kws : List Keyword}
theorem pe_cald (C : CalK X.prog X.w X.K X.mg X.base k x ps n kw sp D) (hr : Room m X.A) (ha : PA X (e :: es) t) (hle : k ≤ m := by first | decide | omega) (hg : Gl X x := by rfl) (hdb : (x == ("__debug__" : Str)) = false := by decide)
    (he : starEach (e :: es) X.env = (false, eval e X.env) :: starEach es X.env := by rfl) (hpl : (backTo pos (starEach es X.env)).any (·.1) = false := by rfl) :
    PE X (.Call (.Name x p) (e :: es) [] pos) (tCall sp [V.ref D] E0 t) := by
  obtain ⟨f, fd, F, hm, hk, _, ds, hd, b3⟩ := C.ex
  exact pe_call F (hr.mono hle) hg hm hk b3 hd pass0 ha (hdb := hdb) (he := he) (hpl := hpl)
end
theorem calk_mk {P : Program} {w : World} {K : PySem.W.Frag} {mg : Str → Option Value} {base : Heap} {k : Nat} {x kw : Str} {ps : List Str} {m : Nat} {st : Stmt} {sp : Sp} {f D E : Addr} {oc : Value} {od an ed : Option Addr} {osl es : Array (Option Value)} {doc pm cdv ct : Value} {en : Nat}
    (l : K.lookup f = some ⟨oc, od, .func (PySem.W.fnOf x x (defArgs st) (defBody st) (defScope st) .none (.ref D) doc pm an cdv ct), osl⟩) (c : PySem.W.codeIn K cdv x = true) (kp : PySem.W.keepIn K (.ref f) = true) (n : PySem.W.nsIn K D kw = some (some (.ref E)))
    (e : K.lookup E = some ⟨.type "tuple", ed, .seq #[] en, es⟩) (hm : mg x = some (.ref f)) (ok : FnOk P w K mg base CX0 k f (PySem.W.fnOf x x (defArgs st) (defBody st) (defScope st) .none (.ref D) doc pm an cdv ct) ps sp)
    (hl : m + 1 = ps.length)
    (hb1 : ∀ (kV doc pm : Value) (an : Option Addr) (cdv ct : Value) (us ws : List Value), us.length = m → ws.length = 1 → bindArgs (PySem.W.fnOf x x (defArgs st) (defBody st) (defScope st) .none kV doc pm an cdv ct) ⟨us, [kw].zip ws⟩ = pure (ps.zip (us ++ ws)))
    (hb3 : ∀ (D : Addr) (doc pm : Value) (an : Option Addr) (cdv ct : Value) (us ks : List Value), us.length = m → ks.length = 1 → KwChain D ([kw].zip ks) (bindArgs (PySem.W.fnOf x x (defArgs st) (defBody st) (defScope st) .none (.ref D) doc pm an cdv ct) ⟨us, []⟩) (ps.zip (us ++ ks))) :
    CalK P w K mg base k x ps m kw sp E := by
  have FD : FunD K x x (defArgs st) (defBody st) (defScope st) [] [(kw, V.ref E)] f (PySem.W.fnOf x x (defArgs st) (defBody st) (defScope st) .none (.ref D) doc pm an cdv ct) :=
    ⟨⟨oc, od, .none, .ref D, doc, pm, an, cdv, ct, osl, rfl, l, c, .inl ⟨rfl, rfl⟩, .inr ⟨D, rfl, fun q hq => by rw [List.mem_singleton.mp hq]; exact ⟨_, n, rfl⟩⟩⟩, kp⟩
  refine ⟨⟨f, _, ok, hm, kp, ⟨fun s us ws _ h1 h2 => .of_eq (hb1 _ _ _ _ _ _ us ws h1 h2), fun r1 r2 => r1.append r2⟩, ?_⟩, ⟨_, en, e, rfl, rfl⟩⟩
  exact FD.binds0 (ps := ps) m (fun z => nomatch z) hl fun D doc pm an cdv ct us ks h1 h2 => hb3 D doc pm an cdv ct us ks h1 h2
end Lk
set_option maxRecDepth 100000
set_option maxHeartbeats 4000000
namespace Lk
open PySem PySem.Spec PyProof.Rows L2
/-! ### a story in two parts -/
section
variable {ps : List (Str × Str)}
theorem stepD_none {st gn met : List Str} {s2 : List Str × List Str} (h : stepD ps (st, gn) met none = some s2) : ∃ y st1, st = y :: st1 ∧ s2 = (st1, gn ++ [y]) := by
  have e2 : (if st = [] then none else some (st.drop 1, gn ++ st.take 1)) = some s2 := h
  cases st with
  | nil => rw [if_pos rfl] at e2; cases e2
  | cons y st1 =>
    rw [if_neg (by simp)] at e2
    exact ⟨y, st1, rfl, (Option.some.inj e2).symm⟩
theorem stepD_some {st gn met : List Str} {x : Str} {s2 : List Str × List Str} (h : stepD ps (st, gn) met (some x) = some s2) : x ∉ met ∧ s2 = (comeTo ps st x, gn) := by
  have e2 : (if x ∈ met then none else some (comeTo ps st x, gn)) = some s2 := h
  by_cases c : x ∈ met
  · rw [if_pos c] at e2
    cases e2
  · rw [if_neg c] at e2
    exact ⟨c, (Option.some.inj e2).symm⟩
theorem goD_cons {d : Deed} {ds : List Deed} {st st' : List Str × List Str} {met : List Str} (h : goD ps (d :: ds) st met = some st') : ∃ s2, stepD ps st met d = some s2 ∧ goD ps ds s2 (met ++ d.toList) = some st' := by
  have h' : (match stepD ps st met d with | none => none | some s2 => goD ps ds s2 (met ++ d.toList)) = some st' := h
  cases e : stepD ps st met d with
  | none => rw [e] at h'; cases h'
  | some s2 =>
    rw [e] at h'
    exact ⟨s2, rfl, h'⟩
theorem come_sub (ps : List (Str × Str)) (st : List Str) (x : Str) : st.Sublist (comeTo ps st x) := by
  unfold comeTo
  rw [List.append_assoc]
  have h : (st.take (spotOf ps st x) ++ st.drop (spotOf ps st x)).Sublist (st.take (spotOf ps st x) ++ ([x] ++ st.drop (spotOf ps st x))) := List.Sublist.append_left (List.sublist_cons_self _ _) _
  rw [List.take_append_drop] at h
  exact h
/-- the line keeps its order -/
theorem go_sub : ∀ (ds : List Deed) {st gn met st' gn' : List Str}, goD ps ds (st, gn) met = some (st', gn') → (gn ++ st).Sublist (gn' ++ st')
  | [], st, gn, met, st', gn', h => by
    have e : (st, gn) = (st', gn') := Option.some.inj h
    cases e
    exact List.Sublist.refl _
  | d :: ds, st, gn, met, st', gn', h => by
    obtain ⟨s2, h1, h2⟩ := goD_cons h
    cases d with
    | none =>
      obtain ⟨y, st1, rfl, rfl⟩ := stepD_none h1
      have := go_sub ds h2
      rw [List.append_assoc] at this
      exact this
    | some x =>
      obtain ⟨nx, rfl⟩ := stepD_some h1
      exact (List.Sublist.append_left (come_sub ps st x) gn).trans (go_sub ds h2)
theorem inLine_self {line : List Str} (nd : line.Nodup) : line.Pairwise fun x y => line.idxOf x ≤ line.idxOf y := by
  rw [List.pairwise_iff_getElem]
  intro i j hi hj hij
  rw [idx_at nd (List.getElem?_eq_getElem hi), idx_at nd (List.getElem?_eq_getElem hj)]
  omega
theorem inLine_sub {line elders : List Str} (nd : line.Nodup) (h : elders.Sublist line) : InLine line elders := ⟨fun _ hx => h.subset hx, (inLine_self nd).sublist h⟩
theorem sub_filter : ∀ {line a : List Str}, a.Sublist line → line.Nodup → a = line.filter fun x => decide (x ∈ a)
  | _, _, .slnil, _ => rfl
  | _, a, .cons (l₂ := l) x h, nd => by
    have nx : x ∉ a := fun z => (List.nodup_cons.mp nd).1 (h.subset z)
    rw [List.filter_cons]
    simp only [nx, decide_false]
    exact sub_filter h (List.nodup_cons.mp nd).2
  | _, _, .cons₂ (l₁ := a) (l₂ := l) x h, nd => by
    rw [List.filter_cons]
    simp only [List.mem_cons, true_or, decide_true, if_true]
    refine congrArg (x :: ·) ?_
    have e := sub_filter h (List.nodup_cons.mp nd).2
    refine e.trans (List.filter_congr fun y hy => ?_)
    have ny : ¬ y = x := fun z => (List.nodup_cons.mp nd).1 (z ▸ hy)
    simp [ny]
theorem Way.keep {stay : Nat → List Str} {sv : List Str} {m : Nat} {row fin : List Str} {ds : List Deed} {x : Str} (h : Way ps stay sv 0 m row ds fin) (hs : ∀ k, x ∈ stay k) : x ∈ sv.take m ++ row → x ∈ fin := by
  induction h with
  | done _ => exact fun z => by simpa using z
  | go y h hy t ih =>
    refine fun z => ih ?_
    rcases List.mem_append.mp z with u | u
    · exact List.mem_append_left _ u
    · refine List.mem_append_right _ (List.mem_filter.mpr ⟨u, ?_⟩)
      have : ¬ x = y := fun e => hy (e ▸ hs _)
      simp [this]
  | back y h t ih =>
    rw [line_back h]
    exact ih
/-! ### when somebody came -/
/-- a story's beginning and the rest of it -/
structure Parts (ps : List (Str × Str)) (ds1 ds2 : List Deed) (here sb st e : List Str) : Prop where
  g1 : goD ps ds1 ([], []) [] = some (here, sb)
  g2 : goD ps ds2 (here, []) (comers ds1) = some (st, e)
  nd : (comers ds1 ++ comers ds2).Nodup
namespace Parts
variable {ds1 ds2 : List Deed} {here sb st e : List Str}
theorem p1 (h : Parts ps ds1 ds2 here sb st e) : (sb ++ here).Perm (comers ds1) := by
  have := go_perm _ _ _ _ h.g1
  simpa using this
theorem p2 (h : Parts ps ds1 ds2 here sb st e) : (e ++ st).Perm (comers ds2 ++ here) := by
  have := go_perm _ _ _ _ h.g2
  simpa using this
theorem n1 (h : Parts ps ds1 ds2 here sb st e) : (sb ++ here).Nodup := h.p1.nodup_iff.mpr (List.nodup_append.mp h.nd).1
theorem dj (h : Parts ps ds1 ds2 here sb st e) : ∀ y ∈ comers ds2, y ∉ sb ++ here := fun y hy z => (List.nodup_append.mp h.nd).2.2 y (h.p1.mem_iff.mp z) y hy rfl
theorem n2 (h : Parts ps ds1 ds2 here sb st e) : (e ++ st).Nodup := h.p2.nodup_iff.mpr (List.nodup_append.mpr ⟨(List.nodup_append.mp h.nd).2.1, (List.nodup_append.mp h.n1).2.1, fun x hx y hy e => h.dj x hx (by rw [e]; exact List.mem_append_right _ hy)⟩)
theorem w1 (h : Parts ps ds1 ds2 here sb st e) {stay : Nat → List Str} (hf : Free stay 0 ds1) : Way ps stay sb 0 sb.length here ds1.reverse [] := go_way ds1 h.g1 (fun _ z => nomatch z) List.nodup_nil hf ⟨[], (List.append_nil _).symm⟩
theorem w2 (h : Parts ps ds1 ds2 here sb st e) {stay : Nat → List Str} (hf : Free stay 0 ds2) : Way ps stay e 0 e.length st ds2.reverse here :=
  go_way ds2 h.g2 (fun x z => h.p1.mem_iff.mp (List.mem_append_right _ (by simpa using z))) (by simpa using (List.nodup_append.mp h.n1).2.1) hf ⟨[], (List.append_nil _).symm⟩
theorem line (h : Parts ps ds1 ds2 here sb st e) : InLine (e ++ st) here := inLine_sub h.n2 (by simpa using go_sub ds2 h.g2)
end Parts
end

/-! ### comprehensions that leave some out -/
section
variable {J : It} {n : Nat} {G : Hp → Prop} {Y : Nat → Hp → V → Hp → Prop} {g : TG} {tt : TT} {te : TE} {vs : List Nat} {σ : L2.St} {H1 : Hp} {D : Addr} {Qd : Hp → Prop}
end
/-! ### deeds as data -/
theorem good_serve : Good "serve" := by show PyData.strOk _ = true; decide +kernel
/-! ### lists of whole numbers -/
section
variable {X : Cx}
end
end Lk
set_option maxRecDepth 100000
set_option maxHeartbeats 4000000
namespace Lk
open PySem PySem.Spec PyProof.Rows L2

/-! ### behind whom one came -/
end Lk
set_option maxRecDepth 100000
set_option maxHeartbeats 4000000
namespace Lk
open PySem PySem.Spec PyProof.Rows L2

/-! ### lists of lists -/
abbrev LA := Addr × List Str
def ListsAt (H : Hp) (ls : List LA) : Prop := ∀ q ∈ ls, H q.1 = some (.lst (q.2.map V.str))
theorem ListsAt.same {H H' : Hp} {ls : List LA} (s : Same H H') (h : ListsAt H ls) : ListsAt H' ls := fun q hq => s _ _ (h q hq)
theorem ListsAt.app {H : Hp} {ls ms : List LA} (h : ListsAt H ls) (h' : ListsAt H ms) : ListsAt H (ls ++ ms) := fun q hq => (List.mem_append.mp hq).elim (h q) (h' q)
end Lk
set_option maxRecDepth 100000
set_option maxHeartbeats 4000000
namespace Lk
open PySem PySem.Spec PyProof.Rows L2

/-! ### small things that can be written -/
structure Fit (n w : Nat) (d : PyData) : Prop where
  sh : d.showable = true
  nd : d.hasDict = false
  dp : d.depth ≤ n
  lv : d.leavesShort 13 = true
  wt : d.weight ≤ w
theorem Fit.mono {n w n' w' : Nat} {d : PyData} (h : Fit n w d) (h1 : n ≤ n') (h2 : w ≤ w') : Fit n' w' d := ⟨h.sh, h.nd, Nat.le_trans h.dp h1, h.lv, Nat.le_trans h.wt h2⟩
theorem Fit.fits {n w : Nat} {d : PyData} (h : Fit n w d) (hw : w ≤ 1048576) : d.shown.length ≤ sizeLine := PyData.shown_fits (B := 13) (by decide) (by decide) h.lv (Nat.le_trans h.wt (Nat.le_trans hw (by decide)))
theorem fit_str {x : Str} {m : Nat} (h : Good x) (hm : x.length ≤ m) : Fit 0 m (.str x) := by
  refine ⟨by simp only [PyData.showable], by simp only [PyData.hasDict], by simp only [PyData.depth, Nat.le_refl], ?_, by simp only [PyData.weight]; exact hm⟩
  simp only [PyData.leavesShort, List.all_eq_true, decide_eq_true_eq]
  intro c hc
  have h0 : x.cps.all (· < 0x110000) = true := h
  rw [← Array.all_toList, List.all_eq_true] at h0
  have := of_decide_eq_true (h0 c hc)
  have e : (16 : Nat) ^ 8 = 4294967296 := by decide
  omega
theorem fit_all {n w : Nat} : ∀ {ds : List PyData}, (∀ d ∈ ds, Fit n w d) → PyData.showableAll ds = true ∧ PyData.hasDictAll ds = false ∧ PyData.depthAll ds ≤ n ∧ PyData.leavesShortAll 13 ds = true ∧ PyData.weightAll ds ≤ (w + 1) * ds.length
  | [], _ => ⟨by simp only [PyData.showableAll], by simp only [PyData.hasDictAll], by simp only [PyData.depthAll]; exact Nat.zero_le _, by simp only [PyData.leavesShortAll], by simp only [PyData.weightAll]; exact Nat.zero_le _⟩
  | d :: ds, h => by
    obtain ⟨i1, i2, i3, i4, i5⟩ := fit_all (ds := ds) fun e he => h e (List.mem_cons_of_mem _ he)
    have f := h d List.mem_cons_self
    refine ⟨?_, ?_, ?_, ?_, ?_⟩
    · simp only [PyData.showableAll, f.sh, i1, Bool.and_self]
    · simp only [PyData.hasDictAll, f.nd, i2, Bool.or_self]
    · simp only [PyData.depthAll]
      exact Nat.max_le.mpr ⟨f.dp, i3⟩
    · simp only [PyData.leavesShortAll, f.lv, i4, Bool.and_self]
    · simp only [PyData.weightAll, List.length_cons]
      rw [Nat.mul_add, Nat.mul_one]
      have := f.wt
      omega
theorem fit_list {n w m : Nat} {ds : List PyData} (h : ∀ d ∈ ds, Fit n w d) (hm : ds.length ≤ m) : Fit (n + 1) ((w + 1) * m) (.list ds) := by
  obtain ⟨i1, i2, i3, i4, i5⟩ := fit_all h
  refine ⟨by simp only [PyData.showable, i1], by simp only [PyData.hasDict, i2], by simp only [PyData.depth]; omega, by simp only [PyData.leavesShort, i4], ?_⟩
  simp only [PyData.weight]
  exact Nat.le_trans i5 (Nat.mul_le_mul_left _ hm)
theorem fit_tuple {n w m : Nat} {ds : List PyData} (h : ∀ d ∈ ds, Fit n w d) (hm : ds.length ≤ m) : Fit (n + 1) ((w + 1) * m) (.tuple ds) := by
  obtain ⟨i1, i2, i3, i4, i5⟩ := fit_all h
  refine ⟨by simp only [PyData.showable, i1], by simp only [PyData.hasDict, i2], by simp only [PyData.depth]; omega, by simp only [PyData.leavesShort, i4], ?_⟩
  simp only [PyData.weight]
  exact Nat.le_trans i5 (Nat.mul_le_mul_left _ hm)
section
variable {X : Cx}
end
theorem dpAll_map {α : Type} {K : PySem.W.Frag} {H : Hp} (f : α → V) (g : α → PyData) : ∀ {xs : List α}, (∀ x ∈ xs, Dp K H (f x) (g x)) → DpAll K H (xs.map f) (xs.map g)
  | [], _ => .nil
  | x :: xs, h => .cons (h x List.mem_cons_self) (dpAll_map f g fun y hy => h y (List.mem_cons_of_mem _ hy))
/-- friends, as they are written -/
def palsD (ps : List (Str × Str)) : PyData := .tuple (ps.map fun p => .tuple [.str p.1, .str p.2])
theorem PalsAt.dp {K : PySem.W.Frag} {H : Hp} {a : Addr} {ps : List (Str × Str)} (h : PalsAt H a ps) : Dp K H (.ref a) (palsD ps) := by
  obtain ⟨bs, h1, h2, rfl⟩ := h
  unfold palsD
  rw [List.map_map]
  refine .tup (.inl (.inl h1)) (dpAll_map _ _ fun b hb => ?_)
  exact .tup (.inl (.inl (h2 b hb))) (.cons (.str _) (.cons (.str _) .nil))
end Lk
set_option maxRecDepth 100000
set_option maxHeartbeats 4000000
namespace Lk
open PySem PySem.Spec PyProof.Rows L2

/-! ### neighbours exchanged -/
def swapL (l : List Str) (i : Nat) (x y : Str) : List Str := l.take i ++ [y, x] ++ l.drop (i + 2)
/-! ### how many pairs stand the other way about -/
/-! ### promises -/
end Lk
set_option maxRecDepth 100000
set_option maxHeartbeats 4000000
namespace Lk
open PySem PySem.Spec PyProof.Rows L2

/-! ### hosts, as they are told -/
abbrev B3O := Addr × Str × Option Str
def optV : Option Str → V
  | none => .non
  | some y => .str y
def PairsO (H : Hp) (qs : List B3O) : Prop := ∀ q ∈ qs, H q.1 = some (.tup [.str q.2.1, optV q.2.2])
theorem PairsO.same {H H' : Hp} {qs : List B3O} (s : Same H H') (h : PairsO H qs) : PairsO H' qs := fun b hb => s _ _ (h b hb)
theorem PairsO.upd_ {H : Hp} {l : Addr} {ys : List V} {o' : HO} {qs : List B3O} (hl : H l = some (.lst ys)) (h : PairsO H qs) : PairsO (upd H l o') qs := fun c hc => (upd_ne (ne_of (h c hc) hl (fun z => nomatch z))).trans (h c hc)
/-! ### promises -/
/-- whom each bars, and more -/
def LedTo (H : Hp) (D : Addr) (ps : List (Str × Str)) (stand : List Str) (n : Nat) : Prop := ∃ kvs, H D = some (.dK kvs) ∧ kvs.length ≤ 100 ∧ ∀ x ∈ stand.take n, ∃ (la : Addr) (ys : List Str), valV kvs (.inr x) = some (.ref la) ∧ H la = some (.lst (ys.map V.str)) ∧ ys.Nodup ∧ (∀ y ∈ ys, y ∈ stand) ∧ ∀ y ∈ stand, wordsAt ps stand x y ≠ [] → y ∈ ys
theorem LedTo.same {H H' : Hp} {D : Addr} {ps : List (Str × Str)} {stand : List Str} {n : Nat} (s : Same H H') (h : LedTo H D ps stand n) : LedTo H' D ps stand n := by
  obtain ⟨kvs, h1, hk, h2⟩ := h
  refine ⟨kvs, s _ _ h1, hk, fun x hx => ?_⟩
  obtain ⟨la, ys, q1, q2, q3⟩ := h2 x hx
  exact ⟨la, ys, q1, s _ _ q2, q3⟩
end Lk
set_option maxRecDepth 100000
set_option maxHeartbeats 4000000
namespace Lk
open PySem PySem.Spec PyProof.Rows L2
/-! ### from one to another by what bars -/
inductive Leads (ps : List (Str × Str)) (row : List Str) : Str → Str → Prop where
  | one {u v : Str} (hu : u ∈ row) (hv : v ∈ row) (h : Bars ps row u v) : Leads ps row u v
  | more {u w v : Str} (hu : u ∈ row) (hw : w ∈ row) (h : Bars ps row u w) (t : Leads ps row w v) : Leads ps row u v
section
variable {ps : List (Str × Str)} {row order : List Str}
theorem Leads.left {u v : Str} (h : Leads ps row u v) : u ∈ row := by
  cases h with
  | one hu _ _ => exact hu
  | more hu _ _ _ => exact hu
theorem Leads.right {u v : Str} (h : Leads ps row u v) : v ∈ row := by
  induction h with
  | one _ hv _ => exact hv
  | more _ _ _ _ ih => exact ih
theorem Leads.trans {u w v : Str} (h : Leads ps row u w) : Leads ps row w v → Leads ps row u v := by
  induction h with
  | one hu hv h => exact fun t => .more hu hv h t
  | more hu hw h t ih => exact fun k => .more hu hw h (ih k)
/-- an order of a row -/
structure OrdOf (ps : List (Str × Str)) (row order : List Str) : Prop where
  nd : order.Nodup
  pm : order.Perm row
  st : standOf ps order = row
theorem OrdOf.len (h : OrdOf ps row order) : order.length = row.length := h.pm.length_eq
theorem OrdOf.bars (h : OrdOf ps row order) (irr : Irr ps) : ∀ u ∈ row, ∀ v ∈ row, Bars ps row u v → order.idxOf u < order.idxOf v := (lin_iff irr _ order row rfl h.nd h.pm).mp h.st
theorem Leads.idx {u v : Str} (irr : Irr ps) (o : OrdOf ps row order) (h : Leads ps row u v) : order.idxOf u < order.idxOf v := by
  induction h with
  | one hu hv h => exact o.bars irr _ hu _ hv h
  | more hu hw h t ih => exact Nat.lt_trans (o.bars irr _ hu _ hw h) ih
theorem Leads.ne {u v : Str} (irr : Irr ps) (o : OrdOf ps row order) (h : Leads ps row u v) : u ≠ v := fun e => by
  have := h.idx irr o
  rw [e] at this
  omega
theorem Leads.no {u v : Str} (irr : Irr ps) (o : OrdOf ps row order) (h : Leads ps row u v) : ¬ Leads ps row v u := fun z => (h.trans z).ne irr o rfl
/-! ### two parts of an order, one behind the other -/
end
end Lk
set_option maxRecDepth 100000
set_option maxHeartbeats 4000000
namespace Lk
open PySem PySem.Spec PyProof.Rows L2
section
variable {X : Cx}
end
/-! ### a dict that is locked for a walk -/
/-! ### dicts whose values are all True -/
def trueK (ys : List Str) : List (Key × V) := ys.map fun y => ((Sum.inr y : Key), V.bl true)
def SetD (H : Hp) (d : Addr) (ys : List Str) : Prop := H d = some (.dK (trueK ys))
/-! ### who came behind whom -/
abbrev B4 := Str × Addr × List Str
def behK (qs : List B4) : List (Key × V) := qs.map fun q => ((Sum.inr q.1 : Key), V.ref q.2.1)
def BehAt (H : Hp) (D : Addr) (ps : List (Str × Str)) (row xs : List Str) : Prop := ∃ qs : List B4, H D = some (.dK (behK qs)) ∧ qs.map (·.1) = xs ∧ ∀ q ∈ qs, SetD H q.2.1 q.2.2 ∧ q.2.2.Nodup ∧ ∀ y, y ∈ q.2.2 ↔ Leads ps row q.1 y
theorem BehAt.same {H H' : Hp} {D : Addr} {ps : List (Str × Str)} {row xs : List Str} (s : Same H H') (h : BehAt H D ps row xs) : BehAt H' D ps row xs := by
  obtain ⟨qs, h1, h2, h3⟩ := h
  exact ⟨qs, s _ _ h1, h2, fun q hq => ⟨s _ _ (h3 q hq).1, (h3 q hq).2⟩⟩
/-- whom each bars -/
def barsL (ps : List (Str × Str)) (row : List Str) (x : Str) : List Str := row.filter fun y => !decide (wordsAt ps row x y = [])
def BarAt (H : Hp) (D : Addr) (ps : List (Str × Str)) (row : List Str) (n : Nat) : Prop := ∃ kvs, H D = some (.dK kvs) ∧ kvs.length ≤ n ∧ ∀ x ∈ row.take n, ∃ la, valV kvs (.inr x) = some (.ref la) ∧ H la = some (.lst ((barsL ps row x).map V.str))
theorem BarAt.same {H H' : Hp} {D : Addr} {ps : List (Str × Str)} {row : List Str} {n : Nat} (s : Same H H') (h : BarAt H D ps row n) : BarAt H' D ps row n := by
  obtain ⟨kvs, h1, h2, h3⟩ := h
  refine ⟨kvs, s _ _ h1, h2, fun x hx => ?_⟩
  obtain ⟨la, e1, e2⟩ := h3 x hx
  exact ⟨la, e1, s _ _ e2⟩
/-! ### put back at least, at most -/
section
variable {ps : List (Str × Str)} {row order : List Str}
end
/-! ### triples of a name and two numbers -/
abbrev B3T := Addr × Str × Nat × Nat
def TripAt (H : Hp) (qs : List B3T) : Prop := ∀ q ∈ qs, H q.1 = some (.tup [.str q.2.1, .int q.2.2.1, .int q.2.2.2])
theorem TripAt.same {H H' : Hp} {qs : List B3T} (s : Same H H') (h : TripAt H qs) : TripAt H' qs := fun b hb => s _ _ (h b hb)
theorem TripAt.upd_ {H : Hp} {l : Addr} {ys : List V} {o' : HO} {qs : List B3T} (hl : H l = some (.lst ys)) (h : TripAt H qs) : TripAt (upd H l o') qs := fun c hc => (upd_ne (ne_of (h c hc) hl (fun z => nomatch z))).trans (h c hc)
/-! ### promises -/
/-- the dict of whom each leads to, by the law -/
def AftAt (H : Hp) (D : Addr) (ps : List (Str × Str)) (row xs : List Str) : Prop := ∃ kvs, H D = some (.dK kvs) ∧ kvs.length ≤ xs.length ∧ ∀ x ∈ xs, ∃ (la : Addr) (ys : List Str), valV kvs (.inr x) = some (.ref la) ∧ H la = some (.lst (ys.map V.str)) ∧ ys.Nodup ∧ ∀ y, y ∈ ys ↔ Leads ps row x y
theorem AftAt.same {H H' : Hp} {D : Addr} {ps : List (Str × Str)} {row xs : List Str} (s : Same H H') (h : AftAt H D ps row xs) : AftAt H' D ps row xs := by
  obtain ⟨kvs, h1, h2, h3⟩ := h
  refine ⟨kvs, s _ _ h1, h2, fun x hx => ?_⟩
  obtain ⟨la, ys, e1, e2, e3⟩ := h3 x hx
  exact ⟨la, ys, e1, s _ _ e2, e3⟩
/-- whom each bars, and more, but none that it does not lead to -/
def LedX (H : Hp) (D : Addr) (ps : List (Str × Str)) (stand : List Str) (n : Nat) : Prop := ∃ kvs, H D = some (.dK kvs) ∧ kvs.length ≤ 100 ∧ ∀ x ∈ stand.take n, ∃ (la : Addr) (ys : List Str), valV kvs (.inr x) = some (.ref la) ∧ H la = some (.lst (ys.map V.str)) ∧ ys.Nodup ∧ (∀ y ∈ ys, Leads ps stand x y) ∧ ∀ y ∈ stand, wordsAt ps stand x y ≠ [] → y ∈ ys
theorem LedX.same {H H' : Hp} {D : Addr} {ps : List (Str × Str)} {stand : List Str} {n : Nat} (s : Same H H') (h : LedX H D ps stand n) : LedX H' D ps stand n := by
  obtain ⟨kvs, h1, hk, h2⟩ := h
  refine ⟨kvs, s _ _ h1, hk, fun x hx => ?_⟩
  obtain ⟨la, ys, q1, q2, q3⟩ := h2 x hx
  exact ⟨la, ys, q1, s _ _ q2, q3⟩
/-- rows of pairs, one of each order -/
abbrev LN := Addr × List B3N
def RowsAt (H : Hp) (rs : List LN) : Prop := ∀ r ∈ rs, H r.1 = some (.lst (refsN r.2)) ∧ PairsN H r.2
theorem RowsAt.same {H H' : Hp} {rs : List LN} (s : Same H H') (h : RowsAt H rs) : RowsAt H' rs := fun r hr => ⟨s _ _ (h r hr).1, (h r hr).2.same s⟩
end Lk
set_option maxRecDepth 100000
set_option maxHeartbeats 4000000
namespace Lk
open PySem PySem.Spec PyProof.Rows L2
/-! ### how many pairs stand otherwise -/
section
variable {ps : List (Str × Str)} {row o o2 : List Str}
/-- places, exchanged at one behind the other, that lead from one order to another one -/
inductive Exs (ps : List (Str × Str)) (row : List Str) : List Str → List Nat → List Str → Prop where
  | nil (o : List Str) : Exs ps row o [] o
  | cons {o o' : List Str} {i : Nat} {ts : List Nat} (x y : Str) (hx : o[i]? = some x) (hy : o[i + 1]? = some y) (h : OrdOf ps row (swapL o i x y)) (t : Exs ps row (swapL o i x y) ts o') : Exs ps row o (i :: ts) o'
theorem Exs.at_ {o o' : List Str} {ts : List Nat} (h : Exs ps row o ts o') : ∀ (k : Nat), k ≤ ts.length → ∃ m, Exs ps row o (ts.take k) m ∧ Exs ps row m (ts.drop k) o' := by
  induction h with
  | nil o => exact fun k _ => ⟨o, by rw [List.take_nil]; exact .nil _, by rw [List.drop_nil]; exact .nil _⟩
  | @cons o o' i ts u v hu hv h t ih =>
    intro k hk
    cases k with
    | zero => exact ⟨_, .nil _, .cons u v hu hv h t⟩
    | succ k =>
      obtain ⟨m, m1, m2⟩ := ih k (by simpa using hk)
      exact ⟨m, .cons u v hu hv h m1, m2⟩
theorem Exs.ord {o a : List Str} {ts : List Nat} (h : Exs ps row o ts a) : OrdOf ps row o → OrdOf ps row a := by
  induction h with
  | nil o => exact id
  | cons u v hu hv h t ih => exact fun _ => ih h
/-! ### what is put back, all together -/
end
/-! ### promises -/
theorem ixN_nat {n i : Nat} (h : i < n) : ixN n ((i : Nat) : Int) = some i := by
  unfold ixN
  rw [if_pos (by omega), if_pos (by omega)]
  rfl
/-! ### a dict made of a list of pairs -/
end Lk
set_option maxRecDepth 100000
set_option maxHeartbeats 4000000
namespace Lk
open PySem PySem.Spec PyProof.Rows L2
/-! ### dict(l), l a list of pairs whose first ones are tuples -/
section
variable {prog : Program} {w : World} {A : Around} {E : Value → Shared → Prop}
end
section
variable {X : Cx}
end
/-! ### friends as a dict of their pairs -/
def MatesAt (H : Hp) (a : Addr) (ps : List (Str × Str)) : Prop := ∃ kvs, H a = some (.dT kvs) ∧ ∀ x y, (valV kvs (k2 x y)).isSome = decide ((x, y) ∈ ps)
def PalX (H : Hp) (a : Addr) (ps : List (Str × Str)) : Prop := PalsAt H a ps ∨ MatesAt H a ps
theorem PalX.same {H H' : Hp} {a : Addr} {ps : List (Str × Str)} (s : Same H H') (h : PalX H a ps) : PalX H' a ps := h.elim (fun e => .inl (e.same s)) fun ⟨kvs, h1, h2⟩ => .inr ⟨kvs, s _ _ h1, h2⟩
theorem PalX.oth {H H' : Hp} {a b : Addr} {ps : List (Str × Str)} (s : Oth b H H') (hb : IsBox H b) (h : PalX H a ps) : PalX H' a ps := h.elim (fun e => .inl (e.oth s hb)) fun ⟨kvs, h1, h2⟩ => .inr ⟨kvs, s _ _ (hb.ne_dT h1) h1, h2⟩
theorem PalX.upd_ {H : Hp} {l a : Addr} {ys : List V} {o' : HO} {ps : List (Str × Str)} (h : PalX H a ps) (hl : H l = some (.lst ys)) : PalX (upd H l o') a ps := h.elim (fun e => .inl (e.upd_ hl)) fun ⟨kvs, h1, h2⟩ => .inr ⟨kvs, (upd_ne (ne_of h1 hl (fun z => nomatch z))).trans h1, h2⟩
end Lk
set_option maxRecDepth 100000
set_option maxHeartbeats 4000000
namespace Lk
open PySem PySem.Spec PyProof.Rows L2
/-! ### list.remove of a text -/
section
variable {X : Cx}
end
/-! ### `dict([(pair, True) for pair in pals])` -/
/-! ### whoever can go goes first -/
section
variable {ps : List (Str × Str)} {stay : Nat → List Str} {sv : List Str}
/-- from a row, `m` served, to another one: whoever can go goes, in any order; where none can the last one served is put back -/
inductive Gre (ps : List (Str × Str)) (stay : Nat → List Str) (sv : List Str) : Nat → List Str → Nat → List Str → Prop where
  | done (m : Nat) (row : List Str) : Gre ps stay sv m row m row
  | go {m m' : Nat} {row row' : List Str} (x : Str) (h : LooseIn ps row x) (hs : x ∉ stay m) (t : Gre ps stay sv m (rem row x) m' row') : Gre ps stay sv m row m' row'
  | back {m m' : Nat} {row row' : List Str} (y : Str) (h : sv[m]? = some y) (no : ∀ x, LooseIn ps row x → x ∈ stay (m + 1)) (t : Gre ps stay sv m (y :: row) m' row') : Gre ps stay sv (m + 1) row m' row'
theorem Gre.trans {m m1 m2 : Nat} {a b c : List Str} (h : Gre ps stay sv m a m1 b) : Gre ps stay sv m1 b m2 c → Gre ps stay sv m a m2 c := by
  induction h with
  | done _ _ => exact id
  | go x h hs t ih => exact fun k => .go x h hs (ih k)
  | back y h no t ih => exact fun k => .back y h no (ih k)
theorem Gre.le {m m1 : Nat} {a b : List Str} (h : Gre ps stay sv m a m1 b) : m1 ≤ m := by
  induction h with
  | done _ _ => exact Nat.le_refl _
  | go x h hs t ih => exact ih
  | back y h no t ih => omega
theorem Gre.way {m m1 : Nat} {a b : List Str} (h : Gre ps stay sv m a m1 b) : ∃ ds, Way ps stay sv m1 m a ds b := by
  induction h with
  | done _ _ => exact ⟨[], .done _⟩
  | go x h hs t ih =>
    obtain ⟨ds, w⟩ := ih
    exact ⟨_, .go x h hs w⟩
  | back y h no t ih =>
    obtain ⟨ds, w⟩ := ih
    exact ⟨_, .back y h w⟩
/-- a way from the beginning goes on from wherever this leads to, and no more are left -/
theorem Gre.follow {m m1 u : Nat} {a b : List Str} (h : Gre ps stay sv m a m1 b) : (sv.take m ++ a).Nodup → u ≤ m1 → ∀ {ds fin}, Way ps stay sv u m a ds fin → ∃ ds' fin', Way ps stay sv u m1 b ds' fin' ∧ ∀ x ∈ fin', x ∈ fin := by
  induction h with
  | done m row => exact fun _ _ {ds fin} w => ⟨ds, fin, w, fun _ h => h⟩
  | go x h hs t ih =>
    intro nd hu ds fin w
    obtain ⟨ds', w'⟩ := w.swap nd x h.nb
    obtain ⟨d2, f2, w2, s2⟩ := ih (nd_rem nd) hu w'
    exact ⟨d2, f2, w2, fun y hy => (List.mem_filter.mp (s2 y hy)).1⟩
  | @back m m' row row' y hy no t ih =>
    intro nd hu ds fin w
    have tl := t.le
    cases w with
    | done _ => omega
    | go x h hs t' => exact absurd (no x h) hs
    | back y' hy' t' =>
      rw [hy] at hy'
      cases hy'
      rw [line_back hy] at nd
      exact ih nd hu t'
/-- at the beginning, where none can go any more, the fewest are left -/
theorem Gre.least {m u : Nat} {a b : List Str} (h : Gre ps stay sv m a u b) (nd : (sv.take m ++ a).Nodup) (no : ∀ x, LooseIn ps b x → x ∈ stay u) {ds : List Deed} {fin : List Str} (w : Way ps stay sv u m a ds fin) : ∀ x ∈ b, x ∈ fin := by
  obtain ⟨ds', fin', w', s'⟩ := h.follow nd (Nat.le_refl _) w
  intro x hx
  refine s' x ?_
  cases w' with
  | done _ => exact hx
  | go y hy hs t => exact absurd (no y hy) hs
  | back y hy t =>
    have := t.le
    omega
end
/-! ### promises -/
end Lk
set_option maxRecDepth 100000
set_option maxHeartbeats 4000000
namespace Lk
open PySem PySem.Spec PyProof.Rows L2
/-! ### whether one can have come when so many had been served -/
section
variable {ps : List (Str × Str)} {stay stay' : Nat → List Str} {sv : List Str}
theorem Way.keepB {m0 m : Nat} {row fin : List Str} {ds : List Deed} {x : Str} (h : Way ps stay sv m0 m row ds fin) : (∀ k, m0 ≤ k → k ≤ m → x ∈ stay k) → x ∈ sv.take m ++ row → x ∈ sv.take m0 ++ fin := by
  induction h with
  | done _ => exact fun _ h => h
  | @go m row ds fin y h hs t ih =>
    intro hk hx
    refine ih hk ?_
    rcases List.mem_append.mp hx with z | z
    · exact List.mem_append_left _ z
    · refine List.mem_append_right _ (mem_rem.mpr ⟨z, fun e => ?_⟩)
      rw [← e] at hs
      exact hs (hk m t.le (Nat.le_refl _))
  | @back m row ds fin y h t ih =>
    intro hk hx
    rw [line_back h] at hx
    exact ih (fun k h1 h2 => hk k h1 (by omega)) hx
theorem Gre.keep {m m' : Nat} {a b : List Str} {x : Str} (h : Gre ps stay sv m a m' b) (hk : ∀ k, x ∈ stay k) (hx : x ∈ sv.take m ++ a) : x ∈ sv.take m' ++ b := by
  obtain ⟨ds, w⟩ := h.way
  exact w.keepB (fun k _ _ => hk k) hx
theorem Gre.change {m m' : Nat} {a b : List Str} (h : Gre ps stay sv m a m' b) : (∀ k x, m' ≤ k → x ∈ sv.take m ++ a → x ∉ stay k → x ∉ stay' k) → (∀ k x, m' < k → x ∈ stay k → x ∈ stay' k) → Gre ps stay' sv m a m' b := by
  induction h with
  | done _ _ => exact fun _ _ => .done _ _
  | @go m m' row row' y h hs t ih =>
    intro h1 h2
    refine .go y h (h1 m y t.le (List.mem_append_right _ h.mem) hs) (ih (fun k x hk hx => h1 k x hk ?_) h2)
    rcases List.mem_append.mp hx with z | z
    · exact List.mem_append_left _ z
    · exact List.mem_append_right _ (mem_rem.mp z).1
  | @back m m' row row' y h no t ih =>
    intro h1 h2
    have := t.le
    refine .back y h (fun x hx => h2 (m + 1) x (by omega) (no x hx)) (ih (fun k x hk hx => h1 k x hk ?_) h2)
    rw [line_back h]
    exact hx
end
section
variable {ps : List (Str × Str)} {olds gn st ins1 ins2 : List Str} {name : Str} {many : Nat}
end
end Lk
set_option maxRecDepth 100000
set_option maxHeartbeats 4000000
namespace Lk
open PySem PySem.Spec PyProof.Rows L2
/-! ### why one never comes -/
section
variable {ps : List (Str × Str)} {stay : Nat → List Str} {sv : List Str}
end
section
variable {ps : List (Str × Str)} {stay : Nat → List Str} {sv : List Str}
def behindL (line there : List Str) (who : Str) : List Str := (line.drop (line.idxOf who + 1)).filter fun x => decide (x ∈ there)
def betweenL (line there : List Str) (who : Str) (h : Nat) : List Str := ((line.take (line.idxOf who)).drop (h + 1)).filter fun x => decide (x ∈ there)
end
/-! ### promises -/
def reasonOf (ps : List (Str × Str)) (line : List Str) (many : Nat) (there : List Str) (who : Str) : Str × List Str :=
  match (behindL line there who).filter (frd ps who) with
  | f :: _ => ("friend", [f])
  | [] => match lastP (frd ps who) (line.take (line.idxOf who)) with
    | none => ("behind", (behindL line there who).take 1)
    | some h => ("between", (betweenL line there who h).take 1 ++ if h < many then (behindL line there who).take 1 else [])
/-- a reason: where it is, where its names are, who, the word, the names -/
abbrev LR := Addr × Addr × Str × Str × List Str
def ReasonAt (H : Hp) (q : LR) : Prop := TupAt H q.1 [.str q.2.2.1, .str q.2.2.2.1, .ref q.2.1] ∧ TupAt H q.2.1 (q.2.2.2.2.map V.str)
def refsR (rs : List LR) : List V := rs.map fun q => V.ref q.1
def ReasonsAt (H : Hp) (rs : List LR) : Prop := ∀ q ∈ rs, ReasonAt H q
theorem ReasonAt.same {H H' : Hp} {q : LR} (s : Same H H') (h : ReasonAt H q) : ReasonAt H' q := ⟨h.1.same s, h.2.same s⟩
theorem ReasonAt.oth {H H' : Hp} {b : Addr} {q : LR} (s : Oth b H H') (hb : IsBox H b) (h : ReasonAt H q) : ReasonAt H' q := ⟨h.1.oth s hb, h.2.oth s hb⟩
theorem ReasonAt.upd_ {H : Hp} {l : Addr} {ys : List V} {o' : HO} {q : LR} (h : ReasonAt H q) (hl : H l = some (.lst ys)) : ReasonAt (upd H l o') q := ⟨h.1.upd_ hl, h.2.upd_ hl⟩
/-- who is left, in the line's order -/
def leftL (ps : List (Str × Str)) (elders svd row : List Str) : List Str := (trace ps (stayF elders none) svd svd.length row).2.filter fun x => !decide (x ∈ elders)
/-- what is told of a line -/
def ToldAt (H : Hp) (T : Addr) (ps : List (Str × Str)) (elders svd row : List Str) : Prop :=
  (leftL ps elders svd row = [] ∧ ∃ (u : Addr) (ds : List LD), TupAt H T [.str "deeds", .ref u] ∧ H u = some (.lst (refsD ds)) ∧ DeedsAt H ds ∧ ds.map (·.2) = (trace ps (stayF elders none) svd svd.length row).1.reverse) ∨
  (leftL ps elders svd row ≠ [] ∧ ∃ (p : Addr) (rs : List LR), TupAt H T [.str "none", .ref p] ∧ H p = some (.lst (refsR rs)) ∧ ReasonsAt H rs ∧ rs.map (fun q => q.2.2) = (leftL ps elders svd row).map (fun x => (x, reasonOf ps (svd ++ row) svd.length (leftL ps elders svd row ++ elders) x)))
theorem ToldAt.same {H H' : Hp} {T : Addr} {ps : List (Str × Str)} {elders svd row : List Str} (s : Same H H') (h : ToldAt H T ps elders svd row) : ToldAt H' T ps elders svd row := by
  rcases h with ⟨h0, u, ds, h1, h2, h3, h4⟩ | ⟨h0, p, rs, h1, h2, h3, h4⟩
  · exact .inl ⟨h0, u, ds, h1.same s, s _ _ h2, h3.same s, h4⟩
  · exact .inr ⟨h0, p, rs, h1.same s, s _ _ h2, (fun q hq => (h3 q hq).same s), h4⟩
theorem ToldAt.oth {H H' : Hp} {b T : Addr} {ps : List (Str × Str)} {elders svd row : List Str} (s : Oth b H H') (hb : IsBox H b) (h : ToldAt H T ps elders svd row) : ToldAt H' T ps elders svd row := by
  rcases h with ⟨h0, u, ds, h1, h2, h3, h4⟩ | ⟨h0, p, rs, h1, h2, h3, h4⟩
  · exact .inl ⟨h0, u, ds, h1.oth s hb, s _ _ (hb.ne_refs (xs := ds.map (·.1)) (by rw [List.map_map]; exact h2)) h2, (fun q hq => (h3 q hq).oth s hb), h4⟩
  · exact .inr ⟨h0, p, rs, h1.oth s hb, s _ _ (hb.ne_refs (xs := rs.map (·.1)) (by rw [List.map_map]; exact h2)) h2, (fun q hq => (h3 q hq).oth s hb), h4⟩
end Lk
set_option maxRecDepth 100000
set_option maxHeartbeats 4000000
namespace Lk
open PySem PySem.Spec PyProof.Rows L2
/-! ### goings in any order -/
section
variable {ps : List (Str × Str)} {stay : Nat → List Str} {sv : List Str}
end
/-! ### lists of texts that aren't alike -/
section
variable {X : Cx}
end
/-! ### promises -/
end Lk
set_option maxRecDepth 100000
set_option maxHeartbeats 4000000
namespace Lk
open PySem PySem.Spec PyProof.Rows L2
/-! ### any list beside [] -/
section
variable {X : Cx}
end
/-! ### a reason as data -/
/-! ### what a reason says -/
def ReasonOk (ps : List (Str × Str)) (line : List Str) (many : Nat) (x w : Str) (os : List Str) : Prop :=
  (∃ f, w = "friend" ∧ os = [f] ∧ f ∈ line ∧ line.idxOf x < line.idxOf f ∧ frd ps x f = true) ∨
  (∃ z, w = "behind" ∧ os = [z] ∧ z ∈ line ∧ line.idxOf x < line.idxOf z ∧ lastP (frd ps x) (line.take (line.idxOf x)) = none) ∨
  (∃ h y, w = "between" ∧ lastP (frd ps x) (line.take (line.idxOf x)) = some h ∧ y ∈ line ∧ h < line.idxOf y ∧ line.idxOf y < line.idxOf x ∧ ((h < many ∧ ∃ z, os = [y, z] ∧ z ∈ line ∧ line.idxOf x < line.idxOf z) ∨ (¬ h < many ∧ os = [y])))
theorem ReasonOk.mem {ps : List (Str × Str)} {line : List Str} {many : Nat} {x w : Str} {os : List Str} (h : ReasonOk ps line many x w os) : ∀ y ∈ os, y ∈ line := by
  rcases h with ⟨f, _, rfl, h, _⟩ | ⟨z, _, rfl, h, _⟩ | ⟨h, y, _, _, hy, _, _, ⟨_, z, rfl, hz, _⟩ | ⟨_, rfl⟩⟩
  · intro y hy
    rw [List.mem_singleton.mp hy]
    exact h
  · intro y hy
    rw [List.mem_singleton.mp hy]
    exact h
  · intro u hu
    rcases List.mem_cons.mp hu with z' | z'
    · rw [z']
      exact hy
    · rw [List.mem_singleton.mp z']
      exact hz
  · intro u hu
    rw [List.mem_singleton.mp hu]
    exact hy
/-! ### the deeds told are a history -/
section
variable {ps : List (Str × Str)} {stay : Nat → List Str} {sv : List Str}
theorem Way.len {m0 m : Nat} {row fin : List Str} {ds : List Deed} (h : Way ps stay sv m0 m row ds fin) : (sv.take m ++ row).Nodup → ds.length + fin.length + 2 * m0 = row.length + 2 * m := by
  induction h with
  | done row => exact fun _ => by simp
  | @go m row ds fin x hx hs t ih =>
    intro nd
    have := ih (nd_rem nd)
    have rl := rem_len (nd_right nd) hx.mem
    rw [List.length_cons]
    omega
  | @back m row ds fin y hy t ih =>
    intro nd
    rw [line_back hy] at nd
    have := ih nd
    rw [List.length_cons] at this
    rw [List.length_cons]
    omega
end
/-! ### promises -/
theorem good_words : Good "friend" ∧ Good "behind" ∧ Good "between" := by
  refine ⟨?_, ?_, ?_⟩ <;> (show PyData.strOk _ = true; decide +kernel)
theorem ReasonOk.good {ps : List (Str × Str)} {line : List Str} {many : Nat} {x w : Str} {os : List Str} (h : ReasonOk ps line many x w os) : Good w := by
  rcases h with ⟨f, rfl, _⟩ | ⟨z, rfl, _⟩ | ⟨h, y, rfl, _⟩
  · exact good_words.1
  · exact good_words.2.1
  · exact good_words.2.2
end Lk
set_option maxRecDepth 100000
set_option maxHeartbeats 4000000
namespace Lk
open PySem PySem.Spec PyProof.Rows L2
/-! ### set(ns), ns a list of ints, some of them twice -/
section
variable {P : Program} {w : World} {A : Around} {E : Value → Shared → Prop} {s : Shared}
end
section
variable {X : Cx}
end
end Lk
set_option maxRecDepth 100000
set_option maxHeartbeats 4000000
namespace Lk
open PySem PySem.Spec PyProof.Rows L2
/-! ### how many ways are left, at most -/
/-! ### histories begun -/
structure WE where
  T : Addr
  d : Addr
  t : Addr
  ds : List LD
  here : List Str
  m : Nat
def EntAt (H : Hp) (e : WE) : Prop := TupAt H e.T [.ref e.d, .ref e.t, .int (e.m : Nat)] ∧ TupAt H e.d (refsD e.ds) ∧ DeedsAt H e.ds ∧ TupAt H e.t (e.here.map V.str)
def EntsAt (H : Hp) (es : List WE) : Prop := ∀ e ∈ es, EntAt H e
theorem EntAt.same {H H' : Hp} {e : WE} (s : Same H H') (h : EntAt H e) : EntAt H' e := ⟨h.1.same s, h.2.1.same s, h.2.2.1.same s, h.2.2.2.same s⟩
theorem EntsAt.same {H H' : Hp} {es : List WE} (s : Same H H') (h : EntsAt H es) : EntsAt H' es := fun e he => (h e he).same s
theorem EntAt.upd_ {H : Hp} {l : Addr} {ys : List V} {o' : HO} {e : WE} (h : EntAt H e) (hl : H l = some (.lst ys)) : EntAt (upd H l o') e :=
  ⟨h.1.upd_ hl, h.2.1.upd_ hl, fun q hq => (h.2.2.1 q hq).upd_ hl, h.2.2.2.upd_ hl⟩
/-- what of the line's history has been gone through -/
structure EntOk (ps : List (Str × Str)) (olds gn st : List Str) (k : Nat) (e : WE) : Prop where
  len : e.ds.length = k
  go : goD ps (e.ds.map (·.2)) (olds, []) olds = some (e.here, gn.take e.m)
  le : e.m ≤ gn.length
  sub : e.here.Sublist ((gn ++ st).drop e.m)
def leftN (gn st : List Str) (e : WE) : Nat := (gn ++ st).length - e.m - e.here.length
section
variable {ps : List (Str × Str)} {olds gn st : List Str} {k : Nat} {e : WE}
theorem take_line {m : Nat} (h : m ≤ gn.length) : (gn ++ st).take m = gn.take m := List.take_append_of_le_length h
theorem EntOk.new (h : EntOk ps olds gn st k e) (nd : (gn ++ st).Nodup) {x : Str} (hx : x ∈ (gn ++ st).drop e.m) (nx : x ∉ e.here) : x ∉ olds ++ comers (e.ds.map (·.2)) := fun z => by
  have pm := go_perm _ _ _ _ h.go
  have : x ∈ comers (e.ds.map (·.2)) ++ ([] ++ olds) := by
    rcases List.mem_append.mp z with u | u
    · exact List.mem_append_right _ (by simpa using u)
    · exact List.mem_append_left _ u
  rcases List.mem_append.mp (pm.mem_iff.mpr this) with u | u
  · have u' : x ∈ (gn ++ st).take e.m := by rw [take_line h.le]; exact u
    have nd' := nd
    rw [← List.take_append_drop e.m (gn ++ st)] at nd'
    exact (List.nodup_append.mp nd').2.2 x u' x hx rfl
  · exact nx u
/-- somebody more comes -/
theorem EntOk.comes (h : EntOk ps olds gn st k e) (nd : (gn ++ st).Nodup) {x : Str} (hx : x ∈ (gn ++ st).drop e.m) (nx : x ∉ e.here) {T d t a : Addr} (hs : (comeTo ps e.here x).Sublist ((gn ++ st).drop e.m)) : EntOk ps olds gn st (k + 1) ⟨T, d, t, e.ds ++ [((a, some x) : LD)], comeTo ps e.here x, e.m⟩ := by
  refine ⟨by rw [List.length_append, h.len]; rfl, ?_, h.le, hs⟩
  show goD ps ((e.ds ++ [((a, some x) : LD)]).map (·.2)) (olds, []) olds = some (comeTo ps e.here x, gn.take e.m)
  rw [List.map_append]
  show goD ps (e.ds.map (·.2) ++ [some x]) (olds, []) olds = _
  rw [goD_snoc, h.go]
  show (if x ∈ olds ++ comers (e.ds.map (·.2)) then none else some (comeTo ps e.here x, gn.take e.m)) = _
  rw [if_neg (h.new nd hx nx)]
/-- how many can come -/
theorem EntOk.few (h : EntOk ps olds gn st k e) (nd : (gn ++ st).Nodup) : (((gn ++ st).drop e.m).filter fun x => !decide (x ∈ e.here)).length = leftN gn st e := by
  have ndd := nd.sublist (List.drop_sublist e.m (gn ++ st))
  have e1 := sub_filter h.sub ndd
  have p := (List.filter_append_perm (fun x => decide (x ∈ e.here)) ((gn ++ st).drop e.m)).length_eq
  rw [← e1, List.length_append, List.length_drop] at p
  unfold leftN
  omega
end
/-! ### long lists -/
section
variable {J : It} {n : Nat} {G : Hp → Prop} {Y : Nat → Hp → V → Hp → Prop} {g : TG} {tt : TT} {te : TE} {vs : List Nat} {σ : L2.St} {H1 : Hp} {D : Addr} {Qd : Hp → Prop}
end
/-! ### promises -/
abbrev LW := Addr × List LD
def WaysAt (H : Hp) (ws : List LW) : Prop := ∀ q ∈ ws, TupAt H q.1 (refsD q.2) ∧ DeedsAt H q.2
theorem WaysAt.same {H H' : Hp} {ws : List LW} (s : Same H H') (h : WaysAt H ws) : WaysAt H' ws := fun q hq => ⟨(h q hq).1.same s, (h q hq).2.same s⟩
end Lk
set_option maxRecDepth 100000
set_option maxHeartbeats 4000000
namespace Lk
open PySem PySem.Spec PyProof.Rows L2
/-! ### ways as data -/
section
variable {K : PySem.W.Frag} {H : Hp}
end
end Lk
set_option maxRecDepth 100000
set_option maxHeartbeats 4000000
namespace Lk
open PySem PySem.Spec PyProof.Rows L2
/-! ### who was ever there -/
def BeenAt (H : Hp) (d : Addr) (met : List Str) : Prop := ∃ kvs, H d = some (.dK kvs) ∧ kvs.length ≤ met.length ∧ ∀ y, (valV kvs (.inr y)).isSome = decide (y ∈ met)
theorem BeenAt.same {H H' : Hp} {d : Addr} {met : List Str} (s : Same H H') (h : BeenAt H d met) : BeenAt H' d met := by
  obtain ⟨kvs, h1, h2, h3⟩ := h
  exact ⟨kvs, s _ _ h1, h2, h3⟩
theorem TupAt.updK {H : Hp} {l t : Addr} {xs : List V} {kvs : List (Key × V)} {o' : HO} (h : TupAt H t xs) (hl : H l = some (.dK kvs)) : TupAt (upd H l o') t xs := by
  obtain ⟨o, h1, h2⟩ := h
  exact ⟨o, h1, (upd_ne (ne_of h2 hl (fun z => nomatch z))).trans h2⟩
/-! ### promises -/
/-! ### one more is served, one more comes -/
/-! ### two tuples of texts -/
/-- a history told, or none -/
def TellAt (H : Hp) (T : Addr) (ps : List (Str × Str)) (olds gn st : List Str) : Prop :=
  (∃ (u : Addr) (ds : List LD), TupAt H T [.str "deeds", .ref u] ∧ H u = some (.lst (refsD ds)) ∧ DeedsAt H ds ∧ goD ps (ds.map (·.2)) (olds, []) olds = some (st, gn) ∧ olds.length + ds.length ≤ st.length + 2 * gn.length) ∨
  (∃ (p : Addr), TupAt H T [.str "none", .ref p])
theorem TellAt.same {H H' : Hp} {T : Addr} {ps : List (Str × Str)} {olds gn st : List Str} (s : Same H H') (h : TellAt H T ps olds gn st) : TellAt H' T ps olds gn st := by
  rcases h with ⟨u, ds, h1, h2, h3, h4⟩ | ⟨p, h1⟩
  · exact .inl ⟨u, ds, h1.same s, s _ _ h2, h3.same s, h4⟩
  · exact .inr ⟨p, h1.same s⟩
end Lk
set_option maxRecDepth 100000
set_option maxHeartbeats 4000000
namespace Lk
open PySem PySem.Spec PyProof.Rows L2
/-! ### promises -/
end Lk
set_option maxRecDepth 100000
set_option maxHeartbeats 4000000
namespace Lk
open PySem PySem.Spec PyProof.Rows L2
/-! ### all are served, each one alone in the row -/
section
variable {ps : List (Str × Str)} {pool : List Str}
end
end Lk
set_option maxRecDepth 100000
set_option maxHeartbeats 4000000
namespace Lk
open PySem PySem.Spec PyProof.Rows L2
/-! ### len(set(xs)), xs a list of texts, some of them twice -/
section
variable {P : Program} {w : World} {A : Around} {E : Value → Shared → Prop} {s : Shared}
end
section
variable {X : Cx}
end
/-! ### a row of which nobody is served yet -/
/-! ### papers that show nothing -/
/-- a text or a pair: no reason -/
def NoClause (H : Hp) (v : V) : Prop := (∃ x : Str, v = .str x) ∨ ∃ (t : Addr) (x y : Str), v = .ref t ∧ H t = some (.tup [.str x, .str y])
theorem NoClause.same {H H' : Hp} {v : V} (s : Same H H') (h : NoClause H v) : NoClause H' v := h.elim .inl fun ⟨t, x, y, e, h⟩ => .inr ⟨t, x, y, e, s _ _ h⟩
end Lk
set_option maxRecDepth 100000
set_option maxHeartbeats 4000000
namespace Lk
open PySem PySem.Spec PyProof.Rows L2
/-! ### led back, and what was done on the way -/
section
variable {ps : List (Str × Str)} {olds gn st ins1 ins2 : List Str} {name : Str} {many : Nat} {ds1 ds2 : List Deed}
theorem Way.coming {stay : Nat → List Str} {sv : List Str} {m0 m : Nat} {row fin : List Str} {ds : List Deed} (h : Way ps stay sv m0 m row ds fin) {x : Str} : some x ∈ ds → x ∈ sv.take m ++ row := by
  induction h with
  | done row => exact fun h => nomatch h
  | @go m row ds fin y hy hs t ih =>
    intro hm
    rcases List.mem_cons.mp hm with z | z
    · cases z
      exact List.mem_append_right _ hy.mem
    · rcases List.mem_append.mp (ih z) with w | w
      · exact List.mem_append_left _ w
      · exact List.mem_append_right _ (mem_rem.mp w).1
  | @back m row ds fin y h t ih =>
    intro hm
    rw [line_back h]
    rcases List.mem_cons.mp hm with z | z
    · cases z
    · exact ih z
end
/-- histories in a list -/
abbrev LH := Addr × List LD
def HistsAt (ps : List (Str × Str)) (olds gn st : List Str) (H : Hp) (ws : List LH) : Prop := ∀ q ∈ ws, H q.1 = some (.lst (refsD q.2)) ∧ DeedsAt H q.2 ∧ goD ps (q.2.map (·.2)) (olds, []) olds = some (st, gn)
theorem HistsAt.oth {ps : List (Str × Str)} {olds gn st : List Str} {H H' : Hp} {b : Addr} {ws : List LH} (o : Oth b H H') (hb : IsBox H b) (h : HistsAt ps olds gn st H ws) : HistsAt ps olds gn st H' ws := fun q hq => by
  obtain ⟨h1, h2, h3⟩ := h q hq
  exact ⟨o _ _ (hb.ne_refs (xs := q.2.map (·.1)) (by rw [List.map_map]; exact h1)) h1, fun d hd => (h2 d hd).oth o hb, h3⟩
theorem HistsAt.same {ps : List (Str × Str)} {olds gn st : List Str} {H H' : Hp} {ws : List LH} (s : Same H H') (h : HistsAt ps olds gn st H ws) : HistsAt ps olds gn st H' ws := fun q hq => by
  obtain ⟨h1, h2, h3⟩ := h q hq
  exact ⟨s _ _ h1, fun d hd => (h2 d hd).same s, h3⟩
end Lk
set_option maxRecDepth 100000
set_option maxHeartbeats 4000000
namespace Lk
open PySem PySem.Spec PyProof.Rows L2
/-! ### right papers show that nobody comes there -/
theorem ReasonOk.nd {ps : List (Str × Str)} {line : List Str} {many : Nat} {x w : Str} {os : List Str} (h : ReasonOk ps line many x w os) : os.Nodup ∧ os.length ≤ 2 := by
  rcases h with ⟨f, _, rfl, _⟩ | ⟨z, _, rfl, _⟩ | ⟨h, y, _, _, _, _, ly, ⟨_, z, rfl, _, lz⟩ | ⟨_, rfl⟩⟩
  · simp
  · simp
  · refine ⟨List.nodup_cons.mpr ⟨fun z => ?_, List.nodup_cons.mpr ⟨(fun z => nomatch z), List.nodup_nil⟩⟩, Nat.le_refl _⟩
    rw [List.mem_singleton.mp z] at ly
    omega
  · simp
end Lk
set_option maxRecDepth 100000
set_option maxHeartbeats 4000000
namespace Lk
open PySem PySem.Spec PyProof.Rows L2
/-! ### calls that may raise, in a try -/
section
variable {X : Cx} {CX : CXT} {k n m : Nat} {f : Addr} {fd : FuncData} {ps ks : List Str} {sp : Sp} {E : L2.St → XK} {x : Str} {p pos : Pos} {kws : List Keyword} {tk t : TA} {g : List Value → List Value → List Value} {gV : List V → List V → List V} {e : Expr} {es : List Expr}
theorem fn_ranX {pins : List (Addr × Obj)} {σ : L2.St} {H : Hp} {s : Shared} {Q : VK} {ar : Args} {us : List Value} {vs : List V} (F : FnOk X.prog X.w X.K X.mg X.base CX k f fd ps sp) (z : Room k X.A) (hx : PassesAt CX X σ (E σ))
    (I : Inv X pins σ H s) (bd : BindsTo s fd ar (ps.zip us)) (rv : Vals vs us) (h : sp vs H Q (E σ)) : wpAny (model X.prog X.w) X.A (call (.ref f) ar.pos ar.kw) (EP X pins σ Q) X.xe s := by
  refine wpAny_call (codeAny_mono (F.run X.A X.stack s H ar us vs Q (E σ) z I.env0 bd rv h) ?_)
  rintro (e | fl) s2 ends
  · exact hx pins H s e s2 I ends
  cases fl with
  | ret u => exact I.after ends
  | next => exact (ends : False).elim
  | brk => exact (ends : False).elim
  | cont => exact (ends : False).elim
def tCallNX (n k : Nat) (sp : Sp) (gV : List V → List V → List V) (E : L2.St → XK) (t tk : TA) : TE := fun σ H Q => t σ H fun vs H1 => tk σ H1 fun zs H2 => vs.length = n ∧ zs.length = k ∧ sp (gV vs zs) H2 Q (E σ)
theorem pe_callNX (F : FnOk X.prog X.w X.K X.mg X.base CX k f fd ps sp) (z : Room k X.A) (gl : Gl X x) (hm : X.mg x = some (.ref f)) (kp : PySem.W.keepIn X.K (.ref f) = true) (hb : KBn X.K fd ps n ks g gV) (hx : ∀ σ, PassesAt CX X σ (E σ))
    (ha : PA X (e :: es) t) (hkw : PK X kws tk) (hall : (backToKw pos (keywordEach kws X.env)).all (·.1.isSome) = true := by rfl)
    (hks : (backToKw pos (keywordEach kws X.env)).filterMap (·.1) = ks := by rfl) (hdb : (x == ("__debug__" : Str)) = false := by decide)
    (he : starEach (e :: es) X.env = (false, eval e X.env) :: starEach es X.env := by rfl)
    (hpl : ((backTo pos (starEach (e :: es) X.env)).any (·.1) || (backToKw pos (keywordEach kws X.env)).any (·.1.isNone)) = false := by rfl) :
    PE X (.Call (.Name x p) (e :: es) kws pos) (tCallNX n ks.length sp gV E t tk) := by
  refine ⟨fun pins s σ H Q I h => ?_⟩
  refine wpAny_Call_Name_kw (ld_glob I gl hm (PySem.W.callWith_KW (h₀ := X.base) I.ok.mod.kin kp hall (thn (ha.run pos pins s σ H _ I h) ?_) hpl he) hdb)
  rintro us s1 ⟨vs, H1, I1, rv, q⟩
  refine thn (hkw.run pos pins s1 σ H1 _ I1 q) fun ws s2 ⟨zs, H2, I2, rz, l1, l2, q2⟩ => ⟨I2.kIn, ?_⟩
  rw [hks]
  exact fn_ranX (ar := ⟨us, ks.zip ws⟩) F z (hx σ) I2 (hb.to s2 us ws I2.kIn (rv.length.symm.trans l1) (rz.length.symm.trans l2)) (hb.rel rv rz) q2
end
/-- as CalK, of a def that may raise -/
structure CalKX (P : Program) (w : World) (K : PySem.W.Frag) (mg : Str → Option Value) (base : Heap) (k : Nat) (x : Str) (ps : List Str) (n : Nat) (kw : Str) (sp : Sp) : Prop where
  ex : ∃ f fd, FnOk P w K mg base (L2.CX P w) k f fd ps sp ∧ mg x = some (.ref f) ∧ PySem.W.keepIn K (.ref f) = true ∧ KBn K fd ps n [kw] (fun us ws => us ++ ws) (fun vs zs => vs ++ zs)
section
variable {X : Cx} {k m n : Nat} {x kw : Str} {ps : List Str} {sp : Sp} {p pos : Pos} {e : Expr} {es : List Expr} {t tk : TA} {kws : List Keyword} {W : WX}
theorem pe_calkX (C : CalKX X.prog X.w X.K X.mg X.base k x ps n kw sp) (hr : Room m X.A) (tw : Takes X W) (ha : PA X (e :: es) t) (hkw : PK X kws tk) (hle : k ≤ m := by first | decide | omega) (hg : Gl X x := by rfl)
    (hall : (backToKw pos (keywordEach kws X.env)).all (·.1.isSome) = true := by rfl) (hks : (backToKw pos (keywordEach kws X.env)).filterMap (·.1) = [kw] := by rfl)
    (hdb : (x == ("__debug__" : Str)) = false := by decide) (he : starEach (e :: es) X.env = (false, eval e X.env) :: starEach es X.env := by rfl)
    (hpl : ((backTo pos (starEach (e :: es) X.env)).any (·.1) || (backToKw pos (keywordEach kws X.env)).any (·.1.isNone)) = false := by rfl) :
    PE X (.Call (.Name x p) (e :: es) kws pos) (tCallNX n 1 sp (fun vs zs => vs ++ zs) (L2.WE W) t tk) := by
  obtain ⟨f, fd, F, hm, hk, b1⟩ := C.ex
  exact pe_callNX F (hr.mono hle) hg hm hk b1 (fun σ => passAt tw σ) ha hkw (hall := hall) (hks := hks) (hdb := hdb) (he := he) (hpl := hpl)
end
theorem calkX_mk {P : Program} {w : World} {K : PySem.W.Frag} {mg : Str → Option Value} {base : Heap} {k : Nat} {x kw : Str} {ps : List Str} {m : Nat} {st : Stmt} {sp : Sp} {f D : Addr} {oc : Value} {od an : Option Addr} {osl : Array (Option Value)} {doc pm cdv ct : Value}
    (l : K.lookup f = some ⟨oc, od, .func (PySem.W.fnOf x x (defArgs st) (defBody st) (defScope st) .none (.ref D) doc pm an cdv ct), osl⟩) (c : PySem.W.codeIn K cdv x = true) (kp : PySem.W.keepIn K (.ref f) = true)
    (hm : mg x = some (.ref f)) (ok : FnOk P w K mg base (L2.CX P w) k f (PySem.W.fnOf x x (defArgs st) (defBody st) (defScope st) .none (.ref D) doc pm an cdv ct) ps sp)
    (hb1 : ∀ (kV doc pm : Value) (an : Option Addr) (cdv ct : Value) (us ws : List Value), us.length = m → ws.length = 1 → bindArgs (PySem.W.fnOf x x (defArgs st) (defBody st) (defScope st) .none kV doc pm an cdv ct) ⟨us, [kw].zip ws⟩ = pure (ps.zip (us ++ ws))) :
    CalKX P w K mg base k x ps m kw sp :=
  ⟨f, _, ok, hm, kp, ⟨fun s us ws _ h1 h2 => .of_eq (hb1 _ _ _ _ _ _ us ws h1 h2), fun r1 r2 => r1.append r2⟩⟩
/-! ### the class of a bad deed -/
def clsFn (s : Stmt) (i : Nat) : Stmt := match s with
  | .ClassDef (body := b) .. => b.getD i (.Pass ⟨0, 0, 0, 0⟩)
  | _ => .Pass ⟨0, 0, 0, 0⟩
theorem FnOk.or {P : Program} {w : World} {K : PySem.W.Frag} {mg : Str → Option Value} {base : Heap} {CX : CXT} {k : Nat} {f : Addr} {fd : FuncData} {ps : List Str} {s1 s2 : Sp} (F1 : FnOk P w K mg base CX k f fd ps s1) (F2 : FnOk P w K mg base CX k f fd ps s2) : FnOk P w K mg base CX k f fd ps (fun vs H Q E => s1 vs H Q E ∨ s2 vs H Q E) :=
  ⟨fun vs H Q E h => h.elim (F1.len vs H Q E) (F2.len vs H Q E), fun A out s H ar us vs Q E z e b v m => m.elim (F1.run A out s H ar us vs Q E z e b v) (F2.run A out s H ar us vs Q E z e b v)⟩
end Lk
set_option maxRecDepth 100000
set_option maxHeartbeats 4000000
/-! own exception classes right over a built-in one, with an __init__ of their own -/
namespace Lk
open PySem PySem.Spec PySem.W PySem.Calls PyProof.Rows PySem.HandSPX Builtin Builtin.ObjectAttr
abbrev mroB (T : String) : List Value := [.type T, .type "Exception", .type "BaseException", .type "object"]
/-- what the model says of the built-in class T -/
structure BaseK (T newId initId : String) : Prop where
  F : ExcBaseFacts T newId initId (mroB T)
  pass : ∀ self, refuseLoop self "__setattr__" (mroB T) = pure ()
  ty : typeOf (.type T) = pure (.type "type")
  stub : Manifest.isStub T = false
  hand : PySem.W.handedIn (.builtin initId) = true
theorem base_VE : BaseK "ValueError" "ValueError.__new__" "ValueError.__init__" := ⟨F.excBase_ValueError, F.store_ValueError.passes, by kernel_rfl, by decide +kernel, by decide +kernel⟩
section
variable {prog : Program} {w : World} {A : Around} {E : Value → Shared → Prop} {R : Result → Shared → Prop} {hp : Heap} {g : Array GenState} {d : Drawn} {t : Nat} {os : OsState} {T newId initId : String} {K : Frag} {name : Str} {tk : Tok} {v : Value} {x C : Addr} {fv : Array Value} {cd : ClassData}
theorem has_object (T : String) (C : Addr) : (Value.ref C :: mroB T).contains (.type "object") = true := by
  simp [mroB]
theorem osa_first (BK : BaseK T newId initId) (kin : K.In hp) (hx : hp.get? x = some { cls := .ref C, data := .fields fv }) (hcd : clsIn K C = some cd) (hm : cd.mro = .ref C :: mroB T) (hh : cd.hasDict = true) (ha : findIn K (.ref C) name = some none)
    (q : ∀ h' tk' dx, (∀ b o, b ≠ x → hp.get? b = some o → h'.get? b = some o) → hp.objs.size ≤ dx → dx ≠ x → h'.get? x = some { cls := .ref C, dict := some dx, data := .fields fv } →
      h'.Ns1 dx (fun y => if y = name then some v else none) → R (.ok (.ret .none)) ⟨h', g, d, tk', os⟩) :
    codeAny (model prog w) A (.call (.builtin "object.__setattr__") ⟨[.ref x, .str name tk, v], []⟩) R ⟨hp, g, d, t, os⟩ := by
  have J : InstAt hp x { cls := .ref C, data := .fields fv } C none := ⟨hx, rfl, rfl, trivial⟩
  have S := F.store_object
  have xs : x ≠ hp.objs.size := Nat.ne_of_lt (Heap.lt_size hx)
  have sub : Looks (model prog w) hp (isInstance (.ref x) (.type "object")) true := J.type.andThen (looks_mroIn kin (by unfold mroIn; rw [hcd, Option.bind_some, hm, if_neg (by simp), has_object]))
  refine codeAny_call_builtin S.slot.plain S.entry (@check_slot (model prog w) _ _ ⟨hp, g, d, t, os⟩ "object.__setattr__" "object" "__setattr__" (.ref x) [.str name tk, v] [] _ S.kind S.split sub (S.args (.ref x) (.str name tk) v) ?_)
  have Lm : Looks (model prog w) hp (mroOf (.ref C)) cd.mro := (looks_clsIn kin hcd).andThen .now
  have Lt : Looks (model prog w) hp (storeTaker? none) none := .now
  have Lc : Looks (model prog w) hp (classData C) cd := looks_clsIn kin hcd
  rw [osa_eq, refuse_eq]
  refine wpAny_bind (wpAny_bind (J.type.at (wpAny_bind (Lm.at ?_))))
  rw [hm, refuseLoop_ref, BK.pass]
  refine wpAny_pure (wpAny_bind (J.type.at (wpAny_bind ((looks_findIn kin ha).at (wpAny_bind (Lt.at ?_))))))
  show wpAny _ _ (storeInOwnDict (.ref x) (.ref C) (.str name tk) name v false) _ _ _
  obtain ⟨nm, bs, mro, ns, qn, hd, sn, sb, ab, col, del⟩ := cd
  dsimp only at hh
  subst hh
  unfold storeInOwnDict ownDictForStores
  repeat (first | with_reducible refine store_in_new ?_ ?_ | with_reducible refine wpAny_loadPart_at hx ?_ | with_reducible refine Lc.at ?_ | wp_step)
  · exact ⟨_, #[], _, (Heap.get?_update_ne _ _ _ _ xs.symm).trans (Heap.get?_push_at rfl rfl), rfl, fun e he => absurd he (by simp), fun _ => rfl⟩
  · intro h' tk' hn' hs
    have hx1 : (hp.push { cls := .type "dict", data := .dict #[] }).get? x = some { cls := .ref C, data := .fields fv } := Heap.get?_push_of_some _ hx
    refine q h' tk' hp.objs.size (fun b o hb ho => ?_) (Nat.le_refl _) xs.symm ?_ hn'
    · exact (hs.2 b (Nat.ne_of_lt (Heap.lt_size ho))).trans ((Heap.get?_update_ne _ _ _ _ hb).trans (Heap.get?_push_of_some _ ho))
    · exact (hs.2 x xs).trans (Heap.get?_update_self _ hx1 rfl)
theorem osa_next {dx : Addr} {m0 : Str → Option Value} {nl : List Str} (BK : BaseK T newId initId) (kin : K.In hp) (hx : hp.get? x = some { cls := .ref C, dict := some dx, data := .fields fv }) (hns : hp.Ns1 dx m0) (hw : Within m0 nl) (hz : nl.length ≤ 1000)
    (hcd : clsIn K C = some cd) (hm : cd.mro = .ref C :: mroB T) (hh : cd.hasDict = true) (ha : findIn K (.ref C) name = some none)
    (q : ∀ h' tk', (∀ b o, b ≠ dx → hp.get? b = some o → h'.get? b = some o) → h'.Ns1 dx (fun y => if y = name then some v else m0 y) → R (.ok (.ret .none)) ⟨h', g, d, tk', os⟩) :
    codeAny (model prog w) A (.call (.builtin "object.__setattr__") ⟨[.ref x, .str name tk, v], []⟩) R ⟨hp, g, d, t, os⟩ := by
  obtain ⟨oD, esD, epD, hoD, hdD, _⟩ := hns.count hw
  have J : InstAt hp x { cls := .ref C, dict := some dx, data := .fields fv } C (some oD) := ⟨hx, rfl, rfl, hoD⟩
  have S := F.store_object
  have sub : Looks (model prog w) hp (isInstance (.ref x) (.type "object")) true := J.type.andThen (looks_mroIn kin (by unfold mroIn; rw [hcd, Option.bind_some, hm, if_neg (by simp), has_object]))
  refine codeAny_call_builtin S.slot.plain S.entry (@check_slot (model prog w) _ _ ⟨hp, g, d, t, os⟩ "object.__setattr__" "object" "__setattr__" (.ref x) [.str name tk, v] [] _ S.kind S.split sub (S.args (.ref x) (.str name tk) v) ?_)
  have Lm : Looks (model prog w) hp (mroOf (.ref C)) cd.mro := (looks_clsIn kin hcd).andThen .now
  have Lt : Looks (model prog w) hp (storeTaker? none) none := .now
  have Lc : Looks (model prog w) hp (classData C) cd := looks_clsIn kin hcd
  rw [osa_eq, refuse_eq]
  refine wpAny_bind (wpAny_bind (J.type.at (wpAny_bind (Lm.at ?_))))
  rw [hm, refuseLoop_ref, BK.pass]
  refine wpAny_pure (wpAny_bind (J.type.at (wpAny_bind ((looks_findIn kin ha).at (wpAny_bind (Lt.at ?_))))))
  show wpAny _ _ (storeInOwnDict (.ref x) (.ref C) (.str name tk) name v false) _ _ _
  obtain ⟨nm, bs, mro, ns, qn, hd, sn, sb, ab, col, del⟩ := cd
  dsimp only at hh
  subst hh
  unfold storeInOwnDict ownDictForStores
  repeat (first | with_reducible refine PySem.OEX.store_in_old hns hw hz ?_ | with_reducible refine wpAny_loadPart_at hx ?_ | with_reducible refine Lc.at ?_ | wp_step)
  intro h' tk' hn' hs
  exact q h' tk' (fun b o hb ho => (hs.2 b hb).trans ho) hn'
end
end Lk

namespace Lk
open PySem PySem.Spec PyProof.Rows L2
/-- what the written part says of such a class -/
structure OwnC (K : PySem.W.Frag) (T newId : String) (C : Addr) : Prop where
  cls : ∃ nm q N bs sn sub ab col dd k0 k1 k2 k3 k5, K.lookup C = some (excClassObj nm q C N bs (mroB T) true sn sub ab col dd k0 k1 k2 k3 k5 newId)
  sa : PySem.W.findIn K (.ref C) "__setattr__" = some (some (.builtin "object.__setattr__"))
  exC : PySem.W.subIn K (.ref C) (.type "BaseException") = some true
  tyC : PySem.W.typeIn K (.ref C) = some (.type "type")
  kC : PySem.W.keepIn K (.ref C) = true
section
variable {X : Cx} {pins : List (Addr × Obj)} {σ : L2.St} {H : Hp} {s : Shared} {a C dx : Addr} {f : Str} {y : V} {u : Value} {fs : List (Str × V)} {Q : Unit → Shared → Prop} {E : Value → Shared → Prop} {A : Around} {T newId initId : String}
/-- self.f = y, the first field -/
theorem put_first (BK : BaseK T newId initId) (O : OwnC X.K T newId C) (I : Inv X pins σ H s) (e : H a = some (exo a C none)) (hno : PySem.W.findIn X.K (.ref C) f = some none) (ry : RelV y u)
    (q : ∀ dx s', H dx = none → dx ≠ a → Inv X pins σ (upd (upd H dx (exd dx [(f, y)])) a (exo a C (some dx))) s' → Q () s') : wpAny (model X.prog X.w) A (setAttr (.ref a) f u) Q E s := by
  obtain ⟨nm, qn, N, bs, sn, sub, ab, col, dd, k0, k1, k2, k3, k5, hC⟩ := O.cls
  have hcl : PySem.W.clsIn X.K C = some { name := nm, bases := bs, mro := .ref C :: mroB T, ns := N, qualname := qn, hasDict := true, slotNames := sn, subclasses := sub, abstract := ab, collection := col, hasDel := false } := by unfold PySem.W.clsIn; rw [hC] <;> rfl
  obtain ⟨t1, ho⟩ := exo_at I.hok e
  obtain ⟨hp, g, d, t, os⟩ := s
  refine PySem.W.set_plain I.kIn (ox := { cls := .ref C, dict := none, data := .fields #[.ref t1, .none, .none, .none, .bool false, .none] }) (od := none) ⟨ho, rfl, rfl, trivial⟩ O.sa ?_
  refine osa_first BK I.kIn ho hcl rfl rfl hno (fun h' tk' dx k dn dne hx hn => ?_)
  have hnd : H dx = none := I.hok.fresh dn
  have ned : ∀ {b : Addr} {o : Obj}, hp.get? b = some o → b ≠ dx := fun {b o} z => Nat.ne_of_lt (Nat.lt_of_lt_of_le (Heap.lt_size z) dn)
  have nea : ∀ {b : Addr}, H b = none → b ≠ a := fun {b} n z => by
    subst z
    rw [e] at n
    cases n
  have off : ∀ {b : Addr} {o : HO}, H b = some o → b ≠ a → upd (upd H dx (exd dx [(f, y)])) a (exo a C (some dx)) b = some o := fun {b o} z n => by
    rw [upd_ne n, upd_ne (ne_of_none z hnd)]
    exact z
  refine q dx _ hnd dne (I.un (t' := tk') (H' := upd (upd H dx (exd dx [(f, y)])) a (exo a C (some dx))) (h' := h') ⟨fun b o z n _ _ => k b o (nea n) z, fun b o z n _ _ => ⟨o.slots, k b o (nea n) z⟩, fun b o z n _ => ?_, fun b o z _ => ?_,
    fun b xs z => off z (at_ne e z exo_tup), fun b o v z => off z (at_ne e z exo_frz), fun b ps z => ⟨#[], by rw [off z (at_ne e z exo_tbl)]; simp⟩⟩ fun b o z => ?_)
  · rw [upd_ne (nea n), upd_ne (ned z)]
    exact n
  · by_cases hb : b = a
    · exact ⟨_, by rw [hb]; exact hx⟩
    · exact ⟨o, k b o hb z⟩
  by_cases hb : b = a
  · subst hb
    rw [upd_same] at z
    cases z
    exact exo_ok hx
  · rw [upd_ne hb] at z
    by_cases hd : b = dx
    · subst hd
      rw [upd_same] at z
      cases z
      exact exd_ok hn (relO_put (fs := []) ry fun _ => True.intro)
    · rw [upd_ne hd] at z
      refine (I.hok b o z).stay (fun c v hc w => k c v ?_ w) (fun c hc => off hc (at_ne e hc exo_own)) (fun c xs hc => off hc (at_ne e hc exo_tup))
      rcases hc with hc | hc
      · rw [hc]
        exact hb
      · exact at_ne e hc exo_own
/-- self.f = y, a further field -/
theorem put_next (BK : BaseK T newId initId) (O : OwnC X.K T newId C) (I : Inv X pins σ H s) (e : H a = some (exo a C (some dx))) (ed : H dx = some (exd dx fs)) (hl : fs.length ≤ 900) (hno : PySem.W.findIn X.K (.ref C) f = some none) (ry : RelV y u)
    (q : ∀ s', Inv X pins σ (upd H dx (exd dx ((f, y) :: fs))) s' → Q () s') : wpAny (model X.prog X.w) A (setAttr (.ref a) f u) Q E s := by
  obtain ⟨nm, qn, N, bs, sn, sub, ab, col, dd, k0, k1, k2, k3, k5, hC⟩ := O.cls
  have hcl : PySem.W.clsIn X.K C = some { name := nm, bases := bs, mro := .ref C :: mroB T, ns := N, qualname := qn, hasDict := true, slotNames := sn, subclasses := sub, abstract := ab, collection := col, hasDel := false } := by unfold PySem.W.clsIn; rw [hC] <;> rfl
  obtain ⟨t1, ho⟩ := exo_at I.hok e
  obtain ⟨mA, hns, rel⟩ := exd_at I.hok ed
  have hw := within_of rel
  obtain ⟨hp, g, d, t, os⟩ := s
  obtain ⟨oD, _, _, hoD, _, _⟩ := hns.count hw
  refine PySem.W.set_plain I.kIn (ox := { cls := .ref C, dict := some dx, data := .fields #[.ref t1, .none, .none, .none, .bool false, .none] }) (od := some oD) ⟨ho, rfl, rfl, hoD⟩ O.sa ?_
  refine osa_next BK I.kIn ho hns hw (by rw [List.length_map]; omega) hcl rfl rfl hno (fun h' tk' k hn => ?_)
  have there : ∃ o, h'.get? dx = some o := by
    obtain ⟨o, _, _, e', _⟩ := hn
    exact ⟨o, e'⟩
  exact q _ (I.write (t' := tk') (x := dx) (e := dx) (o := exd dx ((f, y) :: fs)) (by rw [ed]; exact True.intro) (.inl rfl) k there (exd_ok hn (relO_put ry rel)))
/-- T.__init__(self, ..) -/
theorem base_init {us : List Value} {Q : Value → Shared → Prop} (BK : BaseK T newId initId) (O : OwnC X.K T newId C) (I : Inv X pins σ H s) (e : H a = some (exo a C none)) (hl : us.length ≤ sizeLine) (q : ∀ s', Inv X pins σ H s' → Q .none s') :
    wpAny (model X.prog X.w) A (call (.builtin initId) (.ref a :: us)) Q E s := by
  obtain ⟨nm, qn, N, bs, sn, sub, ab, col, dd, k0, k1, k2, k3, k5, hC⟩ := O.cls
  obtain ⟨t1, ho⟩ := exo_at I.hok e
  obtain ⟨hp, g, d, t, os⟩ := s
  refine wpAny_call (PySem.HandSPX.init_base BK.F (fun _ => rfl) (I.kIn _ _ hC) ho hl fun h' t2 k hx => ?_)
  have J := I.write (t' := t) (x := a) (e := a) (o := exo a C none) (by rw [e]; exact True.intro) (.inl rfl) k ⟨_, hx⟩ (exo_ok hx)
  rw [show upd H a (exo a C none) = H from funext fun b => by
    by_cases hb : b = a
    · rw [hb, upd_same, e]
    · rw [upd_ne hb]] at J
  exact q _ J
/-- an object that is new since the entry is forgotten, and the heap read without it -/
theorem inv_forget {φ : Heap → Prop} (I : Inv X pins σ H s) (ha : H a = some (.ext φ)) (n0 : X.s_0.heap.get? a = none) :
    ∃ G : Heap, (∀ b o, G.get? b = some o → s.heap.get? b = some o) ∧ G.get? a = none ∧ Inv X pins σ (del H a) { s with heap := G } := by
  obtain ⟨G, g1, g2⟩ := restrict s.heap fun b => decide (b ≠ a)
  have stays : ∀ b o, b ≠ a → s.heap.get? b = some o → G.get? b = some o := fun b o hb e => (g1 b (decide_eq_true hb)).trans e
  have noA : G.get? a = none := g2 a (decide_eq_false fun z => z rfl)
  have sub : ∀ b o, G.get? b = some o → s.heap.get? b = some o := fun b o e => by
    by_cases hb : b = a
    · rw [hb, noA] at e
      cases e
    · exact (g1 b (decide_eq_true hb)).symm.trans e
  have ne0 : ∀ b o, X.s_0.heap.get? b = some o → b ≠ a := fun b o e z => by
    subst z
    rw [n0] at e
    cases e
  have neN : ∀ b, H b = none → b ≠ a := fun b e z => by
    subst z
    rw [ha] at e
    cases e
  have neO : ∀ b o, H b = some o → (∀ ψ, o ≠ .ext ψ) → b ≠ a := fun b o e n z => by
    subst z
    rw [ha] at e
    exact n φ (Option.some.inj e).symm
  have cells : ∀ x c, X.env.cells.lookup x = some c → ∀ v, s.heap.IsCell c v → G.IsCell c v := fun x c e v ⟨o, ho, hd⟩ => ⟨o, stays c o (neN c (I.freeC x c e)) ho, hd⟩
  refine ⟨G, sub, noA, ⟨I.ok, I.os, I.bare, ⟨fun b o e n hb hq => stays b o (ne0 b o e) (I.base.keep b o e n hb hq), fun b o e n hb hq => ?_, fun b o e n hq => ?_, fun b o e hq => ?_, fun b xs e => ?_, fun b o u e => ?_, fun b ps e => ?_⟩, ?_, fun x c e => ?_, ?_, fun x c e => ?_, fun p hp => ?_, fun b u e => ?_, I.len⟩⟩
  · obtain ⟨sl, q⟩ := I.base.slot b o e n hb hq
    exact ⟨sl, stays b _ (ne0 b o e) q⟩
  · rw [del_ne (ne0 b o e)]
    exact I.base.free b o e n hq
  · obtain ⟨o', q⟩ := I.base.there b o e hq
    exact ⟨o', stays b o' (ne0 b o e) q⟩
  · have q := I.base.tups b xs e
    rw [del_ne (neO b _ q fun _ z => nomatch z)]
    exact q
  · have q := I.base.frzs b o u e
    rw [del_ne (neO b _ q fun _ z => nomatch z)]
    exact q
  · obtain ⟨m, q⟩ := I.base.tbls b ps e
    exact ⟨m, by rw [del_ne (neO b _ q fun _ z => nomatch z)]; exact q⟩
  · obtain ⟨m, ⟨o, es, ep, ho, r⟩, hl⟩ := I.loc
    refine ⟨m, ⟨o, es, ep, stays _ _ (neN _ I.free) ho, r⟩, fun i x v e1 e2 e3 => ?_⟩
    obtain ⟨u, ru, l⟩ := hl i x v e1 e2 e3
    exact ⟨u, ru, l.imp id fun ⟨k, c, ec, z⟩ => ⟨k, c, ec, cells x c ec _ z⟩⟩
  · obtain ⟨v, z⟩ := I.cell x c e
    exact ⟨v, cells x c e v z⟩
  · rw [del_ne (neN _ I.free)]
    exact I.free
  · rw [del_ne (neN _ (I.freeC x c e))]
    exact I.freeC x c e
  · obtain ⟨e, n, r⟩ := I.pin p hp
    exact ⟨stays _ _ (neN _ n) e, by rw [del_ne (neN _ n)]; exact n, r⟩
  · have hb : b ≠ a := fun z => by
      rw [z, del_same] at e
      cases e
    rw [del_ne hb] at e
    refine (I.hok b u e).stay (fun c v hc q => stays c v ?_ q) (fun c q => ?_) fun c xs q => ?_
    · rcases hc with z | z
      · rw [z]
        exact hb
      · exact neO _ _ z fun _ w => nomatch w
    · rw [del_ne (neO c _ q fun _ z => nomatch z)]
      exact q
    · rw [del_ne (neO c _ q fun _ z => nomatch z)]
      exact q
end
/-! ### readings -/
/-- T.__init__(self, ..) -/
def tBaseI (K : PySem.W.Frag) (T newId : String) (ta : TA) : TE := fun σ H Q => ta σ H fun vs H1 => ∃ (a C : Addr) (ws : List V), vs = .ref a :: ws ∧ ws.length ≤ 1000 ∧ OwnC K T newId C ∧ H1 a = some (exo a C none) ∧ Q .non H1
/-- self.f = e -/
def tPut (K : PySem.W.Frag) (T newId : String) (f : Str) (to te : TE) : TS := fun D σ H => te σ H fun y H1 => to σ H1 fun x H2 => ∃ a C : Addr, x = .ref a ∧ OwnC K T newId C ∧ PySem.W.findIn K (.ref C) f = some none ∧
  ((H2 a = some (exo a C none) ∧ ∀ dx, H2 dx = none → dx ≠ a → D.nx σ (upd (upd H2 dx (exd dx [(f, y)])) a (exo a C (some dx)))) ∨
    ∃ (dx : Addr) (fs : List (Str × V)), H2 a = some (exo a C (some dx)) ∧ H2 dx = some (exd dx fs) ∧ fs.length ≤ 900 ∧ D.nx σ (upd H2 dx (exd dx ((f, y) :: fs))))
/-- C(..), C's own __init__ keeping sp -/
def tMade (C : Addr) (sp : Sp) (ta : TA) : L2.St → Hp → XK → Prop := fun σ H Q => ta σ H fun vs H1 => vs.length ≤ 1000 ∧ ∀ a, H1 a = none → sp (.ref a :: vs) (upd H1 a (exo a C none))
  (fun v H2 => v = .non ∧ ((H2 a = some (exo a C none) ∧ Q (.ref C) none (del H2 a)) ∨ ∃ (d : Addr) (fs : List (Str × V)), H2 a = some (exo a C (some d)) ∧ H2 d = some (exd d fs) ∧ H1 d = none ∧ Q (.ref C) (some d) (upd (del H2 a) d (.xd fs)))) (fun _ _ _ => False)
section
variable {X : Cx} {o e : Expr} {es : List Expr} {to te : TE} {ta : TA} {f : Str} {p p' p1 p2 pos : Pos} {T newId initId : String} {tn : Str}
theorem pe_baseinit {pl : Sem Bool} (BK : BaseK T newId initId) (hg : Gl X tn) (hm : X.mg tn = none) (hB : bootBuiltins tn = some (.type T)) (vV : PySem.W.findCls X.K (.type T) (.type "type") "__init__" = some (.val (.builtin initId))) (ha : PA X (e :: es) ta)
    (hc : eval (.Call (.Attribute (.Name tn p1) "__init__" p2) (e :: es) [] pos) X.env = (do
      let o ← eval (.Name tn p1) X.env
      standAt p2.atName
      let (m, self) ← holding [o] (getMethod o "__init__" pl)
      callWith pos m self (backTo pos (starEach (e :: es) X.env)) (backToKw pos (keywordEach [] X.env))) := by rfl)
    (hn : tn ≠ "__name__" := by decide) (hd : (tn == ("__debug__" : Str)) = false := by decide)
    (he : starEach (e :: es) X.env = (false, eval e X.env) :: starEach es X.env := by rfl) (hpl : (backTo pos (starEach es X.env)).any (·.1) = false := by rfl) :
    PE X (.Call (.Attribute (.Name tn p1) "__init__" p2) (e :: es) [] pos) (tBaseI X.K T newId ta) := by
  refine ⟨fun pins s σ H Q I h => ?_⟩
  refine PySem.W.methodCall_KW (ld_blt I hg hm hB ?_ hn hd) hc
  obtain ⟨m, fr⟩ := I.fr
  refine PySem.W.method_type fr I.ok.mod.kin BK.ty BK.stub vV BK.hand ?_
  show wpAny _ _ (callWith pos (Value.builtin initId) [] (backTo pos (starEach (e :: es) X.env)) []) _ _ _
  refine PyProof.Rows.callWith_method1 (thn (ha.run pos pins _ σ H _ (I.tok _) h) fun us s1 ⟨vs, H1, I1, r1, a, C, ws, ev, hl, O, ea, q⟩ => ?_) he hpl
  subst ev
  cases r1 with
  | @cons _ u0 _ ur ra rw' =>
    obtain rfl : u0 = Value.ref a := ra
    have len : ur.length ≤ sizeLine := by
      rw [← Paired.length rw', sizeLine_eq]
      omega
    exact base_init BK O I1 ea len fun s' J => ⟨.non, H1, J, rfl, q⟩
theorem ps_put (BK : BaseK T newId initId) (ho : PE X o to) (he : PE X e te) (hs : swapsWith e (some (.Attribute o f p')) pos.line X.env = pure false := by rfl) : PS X (.Assign [.Attribute o f p'] e pos) (tPut X.K T newId f to te) := by
  refine ⟨fun pins s σ H D I h => ?_⟩
  refine plainObj_wpAny_Assign_Attribute (thn (he.run pins s σ H _ I h) fun v s1 ⟨y, H1, I1, r1, q1⟩ => thn (ho.run pins s1 σ H1 _ I1 q1) fun u s2 ⟨x, H2, I2, r2, a, C, ex, O, hno, q⟩ => ?_) hs
  subst ex
  obtain rfl : u = Value.ref a := r2
  rcases q with ⟨ea, q⟩ | ⟨dx, fs, ea, ed, hl, q⟩
  · exact put_first BK O I2 ea hno r1 fun dx s' n ne J => ⟨σ, _, J, q dx n ne⟩
  · exact put_next BK O I2 ea ed hl hno r1 fun s' J => ⟨σ, _, J, q⟩
/-- what stands behind C(..) -/
theorem made_end {pins : List (Addr × Obj)} {σ : L2.St} {H1 H2 : Hp} {Q : XK} {hp hp2 h2 : Heap} {g1 g2 : Array GenState} {d1 d2 : Drawn} {t1 t2 : Nat} {os1 os2 : OsState} {a C : Addr} (hex : X.ex = []) (R : Raises X (.ref C)) (I1 : Inv X pins σ H1 ⟨hp, g1, d1, t1, os1⟩)
    (ha : hp.objs.size ≤ a) (k : ∀ b o, hp.get? b = some o → hp2.get? b = some o) (I2 : Inv X pins σ (upd H1 a (exo a C none)) ⟨hp2, g1, d1, t1, os1⟩) (un : Un (frs X.stack) [] (upd H1 a (exo a C none)) H2 hp2 h2) (hok : HOk X.prog X.w H2 h2) (ho : os2 = os1) (hb : AllBare g2)
    (q : (H2 a = some (exo a C none) ∧ Q (.ref C) none (del H2 a)) ∨ ∃ (d : Addr) (fs : List (Str × V)), H2 a = some (exo a C (some d)) ∧ H2 d = some (exd d fs) ∧ H1 d = none ∧ Q (.ref C) (some d) (upd (del H2 a) d (.xd fs))) : MkP X pins σ Q (.ref a) ⟨h2, g2, d2, t2, os2⟩ := by
  rcases q with ⟨ea, q⟩ | ⟨d, fs, ea, ed, hd1, q⟩
  · have J : Inv X pins σ H2 ⟨h2, g2, d2, t2, os2⟩ := I2.call' (ch := []) ho un hok hb (fun b z => absurd z (by simp))
    have n0 : X.s_0.heap.get? a = none := by
      cases e : X.s_0.heap.get? a with
      | none => rfl
      | some o =>
        obtain ⟨o', z⟩ := I1.base.there a o e (by rw [hex]; exact fun z => nomatch z)
        exact absurd (show a < hp.objs.size from Heap.lt_size z) (Nat.not_lt.mpr ha)
    obtain ⟨t0, hoe⟩ := exo_at J.hok ea
    obtain ⟨G, kG, nG, J2⟩ := inv_forget J ea n0
    exact ⟨a, _, _, _, _, .ref C, none, rfl, J2, kG, nG, hoe, ⟨rfl, rfl⟩, rfl, rfl, del_same, rfl, hb, R, q⟩
  · exact mk_end R I1 ha k un hok ho hb ea ed hd1 q
section
variable {CX : CXT} {x : Str} {C fI : Addr} {k : Nat} {fd : FuncData} {ps : List Str} {sp : Sp}
theorem made_call {pins : List (Addr × Obj)} {s1 : Shared} {σ : L2.St} {H1 : Hp} {Q : XK} {us : List Value} {vs : List V} (BK : BaseK T newId initId) (O : OwnC X.K T newId C) (iC : PySem.W.findIn X.K (.ref C) "__init__" = some (some (.ref fI))) (tI : PySem.W.typeIn X.K (.ref fI) = some (.type "function"))
    (F1 : L2.FnOk X.prog X.w X.K X.mg X.base CX k fI fd ps sp) (hr : L2.Room (k + 1) X.A) (hb : Binds X.K fd ps []) (hx : Passes CX X (fun _ _ _ => False)) (hex : X.ex = []) (I1 : Inv X pins σ H1 s1) (r1 : Vals vs us) (hz : vs.length ≤ 1000)
    (q1 : ∀ a, H1 a = none → sp (.ref a :: vs) (upd H1 a (exo a C none))
      (fun v H2 => v = .non ∧ ((H2 a = some (exo a C none) ∧ Q (.ref C) none (del H2 a)) ∨ ∃ (d : Addr) (fs : List (Str × V)), H2 a = some (exo a C (some d)) ∧ H2 d = some (exd d fs) ∧ H1 d = none ∧ Q (.ref C) (some d) (upd (del H2 a) d (.xd fs)))) (fun _ _ _ => False)) :
    wpAny (model X.prog X.w) X.A (call (.ref C) us) (MkP X pins σ Q) X.xe s1 := by
  obtain ⟨nm, qn, N, bs, sn, sub, ab, col, dd, k0, k1, k2, k3, k5, hC⟩ := O.cls
  obtain ⟨hp, g, dr, tk, os⟩ := s1
  have up1 : hp.objs.size ≤ hp.objs.size + 1 := Nat.le_succ _
  have q2 := q1 (hp.objs.size + 1) (I1.hok.fresh up1)
  have kk : ∀ b o, hp.get? b = some o → ((hp.push (PySem.W.kdv_tup us)).push (PySem.HandSPX.excO C hp.objs.size)).get? b = some o := fun b o e => Heap.get?_push_of_some _ (Heap.get?_push_of_some _ e)
  have here : ((hp.push (PySem.W.kdv_tup us)).push (PySem.HandSPX.excO C hp.objs.size)).get? (hp.objs.size + 1) = some (PySem.HandSPX.excO C hp.objs.size) := by heap_get
  have I2 : Inv X pins σ (upd H1 (hp.objs.size + 1) (exo (hp.objs.size + 1) C none)) ⟨(hp.push (PySem.W.kdv_tup us)).push (PySem.HandSPX.excO C hp.objs.size), g, dr, tk, os⟩ :=
    I1.laid (t' := tk) (a := hp.objs.size + 1) (o := exo (hp.objs.size + 1) C none) (h' := (hp.push (PySem.W.kdv_tup us)).push (PySem.HandSPX.excO C hp.objs.size)) kk up1 (exo_ok here)
  have r2 : Vals (V.ref (hp.objs.size + 1) :: vs) (Value.ref (hp.objs.size + 1) :: us) := .cons rfl r1
  have len2 : (Value.ref (hp.objs.size + 1) :: us ++ []).length = ps.length := by
    rw [List.append_nil, ← F1.len _ _ _ _ q2, r2.length]
  have len1 : us.length ≤ sizeLine := by
    rw [← Paired.length r1, sizeLine_eq]
    omega
  have bd := hb ⟨(hp.push (PySem.W.kdv_tup us)).push (PySem.HandSPX.excO C hp.objs.size), g, dr, tk, os⟩ (Value.ref (hp.objs.size + 1) :: us) I2.kIn len2
  rw [List.append_nil] at bd
  refine wpAny_call (PySem.HandSPX.call_own BK.F (fun _ => rfl) (I1.kIn _ _ hC) (PySem.W.looks_findIn I1.kIn iC) (fun self => PySem.W.bind_fn I1.kIn self tI) len1
    (codeAny_mono (F1.run _ X.stack _ _ ⟨Value.ref (hp.objs.size + 1) :: us, []⟩ (Value.ref (hp.objs.size + 1) :: us) _ _ (fun _ _ _ => False) (hr.make C us []) (I2.env0.make C us []) bd r2 q2) fun r s' w => ?_))
  cases r with
  | error er => exact hx pins σ _ _ er s' I2 w
  | ok fl =>
    cases fl with
    | ret u =>
      obtain ⟨v, H2, os2, bare2, un2, hok2, rv, ev, q3⟩ := w
      subst ev
      obtain ⟨h2, g2, d2, t2, os'⟩ := s'
      exact ⟨rv, made_end hex (raises_own O.exC O.tyC) I1 up1 kk I2 un2 hok2 os2 bare2 q3⟩
    | next => exact False.elim w
    | brk => exact False.elim w
    | cont => exact False.elim w
theorem pmk_made (BK : BaseK T newId initId) (O : OwnC X.K T newId C) (iC : PySem.W.findIn X.K (.ref C) "__init__" = some (some (.ref fI))) (tI : PySem.W.typeIn X.K (.ref fI) = some (.type "function"))
    (F1 : L2.FnOk X.prog X.w X.K X.mg X.base CX k fI fd ps sp) (hr : L2.Room (k + 1) X.A) (hb : Binds X.K fd ps []) (hx : Passes CX X (fun _ _ _ => False)) (hex : X.ex = []) (hg : Gl X x) (hm : X.mg x = some (.ref C)) (ha : PA X (e :: es) ta)
    (hdb : (x == ("__debug__" : Str)) = false := by decide) (he : starEach (e :: es) X.env = (false, eval e X.env) :: starEach es X.env := by rfl) (hpl : (backTo pos (starEach es X.env)).any (·.1) = false := by rfl) :
    PMk X (.Call (.Name x p) (e :: es) [] pos) (tMade C sp ta) := by
  intro pins s σ H Q I h
  refine wpAny_Call_Name_kw (ld_glob I hg hm ?_ hdb)
  exact PySem.W.callWith_K (h₀ := X.base) I.ok.mod.kin O.kC (thn (ha.run pos pins s σ H _ I h) fun us s1 ⟨vs, H1, I1, r1, hz, q1⟩ => ⟨I1.kIn, made_call BK O iC tI F1 hr hb hx hex I1 r1 hz q1⟩) he hpl
end
end
end Lk

namespace Lk
open PySem PySem.Spec PyProof.Rows L2
/-- a class of exceptions as it is named -/
structure ClsK (K : PySem.W.Frag) (mg : Str → Option Value) (x : Str) (C : Addr) : Prop where
  g : mg x = some (.ref C)
  is : PySem.W.isClsIn K C = true
  ty : PySem.W.typeIn K (.ref C) = some (.type "type")
  ex : PySem.W.subIn K (.ref C) (.type "BaseException") = some true
  self : PySem.W.subIn K (.ref C) (.ref C) = some true
  non : PySem.W.subIn K (.type "NoneType") (.ref C) = some false
/-- an own class right over T that is raised: its __init__ stands at fI -/
structure OwnK (K : PySem.W.Frag) (mg : Str → Option Value) (x : Str) (T newId initId : String) (tn : Str) (C fI : Addr) : Prop extends ClsK K mg x C where
  O : OwnC K T newId C
  iC : PySem.W.findIn K (.ref C) "__init__" = some (some (.ref fI))
  tI : PySem.W.typeIn K (.ref fI) = some (.type "function")
  E : ExcC K C
  vB : PySem.W.findCls K (.type T) (.type "type") "__init__" = some (.val (.builtin initId))
  nB : mg tn = none
  sB : PySem.W.subIn K (.ref C) (.type T) = some true
section
variable {K : PySem.W.Frag} {mg : Str → Option Value} {x y tn : Str} {C D fI : Addr} {T newId initId : String} {b : Bool}
theorem OwnK.xf (O : OwnK K mg x T newId initId tn C fI) : XfC K C := ⟨O.E.hg, O.E.hk, O.E.hs, O.E.hd⟩
theorem ClsK.kit {t : Value} (k : ClsK K mg x C) (h : PySem.W.subIn K t (.ref C) = some b) : PySem.W.kitCls K t (.ref C) = some b := by
  have c : (PySem.W.clsIn K C).isSome = true := k.is
  unfold PySem.W.kitCls
  show (if ((PySem.W.clsIn K C).isSome && PySem.W.typeIn K (.ref C) == some (.type "type")) = true then PySem.W.subIn K t (.ref C) else none) = some b
  rw [if_pos (by rw [c, k.ty]; rfl)]
  exact h
/-- isinstance of the class D, C asked -/
theorem ClsK.one (k : ClsK K mg x C) (h : PySem.W.subIn K (.ref D) (.ref C) = some b) : PySem.W.kitOne K (.ref D) (.ref C) = some b := by
  unfold PySem.W.kitOne
  by_cases e : D = C
  · subst e
    rw [if_pos (by simp)]
    rw [k.self] at h
    exact h
  · rw [if_neg (by simpa using e)]
    exact k.kit h
theorem ClsK.none (k : ClsK K mg x C) : PySem.W.kitOne K (.type "NoneType") (.ref C) = some false := by
  unfold PySem.W.kitOne
  rw [if_neg (by simp)]
  exact k.kit k.non
theorem kit_base (hm : PySem.W.kitMeta T = true) (h : PySem.W.subIn K (.ref D) (.type T) = some b) : PySem.W.kitOne K (.ref D) (.type T) = some b := by
  unfold PySem.W.kitOne
  rw [if_neg (by simp)]
  unfold PySem.W.kitCls
  show (if PySem.W.kitMeta T = true then PySem.W.subIn K (.ref D) (.type T) else none) = some b
  rw [if_pos hm]
  exact h
/-- a clause of C, an exception of D -/
theorem ClsK.exm (k : ClsK K mg x C) (h : PySem.W.subIn K (.ref D) (.ref C) = some b) : PySem.W.exmOne K (.ref D) (.ref C) = some b := by
  unfold PySem.W.exmOne
  rw [if_pos (by rw [k.ex]; rfl)]
  exact k.kit h
theorem exm_cons {cls c : Value} {cs : List Value} {b d : Bool} (h : PySem.W.exmOne K cls c = some b) (r : PySem.W.exmAny K cls cs = some d) : PySem.W.exmAny K cls (c :: cs) = some (b || d) := by
  unfold PySem.W.exmAny
  rw [h, r]
theorem exm_nil {cls : Value} : PySem.W.exmAny K cls [] = some false := rfl
end
/-- __init__ of one field: what it keeps, whatever text it makes of it -/
def spInit1 (C : Addr) (f : Str) : Sp := fun vs H Q _ => ∃ (a : Addr) (v : V), vs = [.ref a, v] ∧ H a = some (exo a C none) ∧ ((∃ i : Int, v = .int i ∧ i.natAbs.log2 < 900) ∨ ∃ z : Str, v = .str z ∧ z.length ≤ 1000) ∧
  ∀ dx, H dx = none → dx ≠ a → Q .non (upd (upd H dx (exd dx [(f, v)])) a (exo a C (some dx)))
end Lk
namespace Lk
open PySem PySem.Spec PyProof.Rows L2
theorem fit_k {a c : Str} {n m : Nat} (h : a.length ≤ n) (hc : c.length ≤ m) : (a ++ c).length ≤ n + m := by
  rw [Str.length_append]
  omega
theorem fit_line {a : Str} {n : Nat} (h : a.length ≤ n) (hn : n ≤ 9000) : a.length ≤ sizeLine := by
  rw [sizeLine_eq]
  omega
theorem int_len {i : Int} (h : i.natAbs.log2 < 900) : (Str.ofString (toString i)).length ≤ 1000 := by
  have q := int_text_length_le (by decide) h
  rw [PySem.ofString_length]
  omega
end Lk
set_option maxRecDepth 100000
set_option maxHeartbeats 4000000
namespace Lk
open PySem PySem.Spec PySem.Calls PyProof.Rows PySem.W
section
variable {M : Model} {K : Frag} {h : Heap} {A : Around} {E : Value → Shared → Prop}
theorem exm_tupN {cs : List Value} {cls : Value} {tp e : Addr} {b : Bool} (X : K.In h) (LT : Looks M h (typeOf (.ref e)) cls) (hp : h.get? tp = some { cls := .type "tuple", data := .seq cs.toArray }) (hx : exmAny K cls cs = some b) :
    Looks M h (excMatches (.ref e) (.ref tp)) b := by
  intro A Q E s k₀ q
  obtain ⟨hh, g, d, tk, os⟩ := s
  have k : ∀ b o, h.get? b = some o → hh.get? b = some o := k₀
  have LT0 : Looks M h (isInstance (.ref tp) (.type "tuple")) true := ((Looks.ld hp).andThen .now).andThen (Looks.of_pure isSubtype_tuple_tuple)
  have LT := LT.keeps k
  have LT0 := LT0.keeps k
  have hp' := k _ _ hp
  unfold excMatches
  refine wpAny_bind (LT0.at ?_)
  dsimp only
  rw [if_pos rfl]
  first
    | refine wpAny_bind (wpAny_seqItems hp' rfl ?_)
    | refine wpAny_bind (wpAny_bind (wpAny_seqItems hp' rfl (wpAny_pure ?_)))
  dsimp only [Option.getD_some, Option.getD]
  refine wpAny_bind (wpAny_pure ?_)
  have hc : ∀ {r : List Value} {d : Bool}, exmAny K cls r = some d → ∀ c ∈ r, ∃ v, exmOne K cls c = some v := by
    intro r
    induction r with
    | nil => intro d _ c hm; cases hm
    | cons c r ih =>
      intro d hd c' hm
      obtain ⟨b1, d1, x1, y1, _⟩ := exmAny_cons hd
      rcases List.mem_cons.mp hm with e | e
      · rw [e]; exact ⟨b1, x1⟩
      · exact ih y1 c' e
  have loop1 : ∀ (r : List Value) {Q : PUnit → Shared → Prop} {E : Value → Shared → Prop}, (∀ c ∈ r, ∃ v, exmOne K cls c = some v) → Q PUnit.unit ⟨hh, g, d, tk, os⟩ → wpAny M A (forIn r PUnit.unit fun c __s => do
          let __do_lift ← isExcClass c
          if (!__do_lift) = true then do
              rule "try.except-non-exception-class"
              raiseErrorWords "TypeError" "catching classes that do not inherit from BaseException is not allowed"
              pure (ForInStep.yield PUnit.unit)
            else pure (ForInStep.yield PUnit.unit)) Q E ⟨hh, g, d, tk, os⟩ := by
    intro r
    induction r with
    | nil => intro Q E _ q; exact wpAny_pure q
    | cons c r ih =>
      intro Q E hm q
      obtain ⟨v, ev⟩ := hm c List.mem_cons_self
      have L := ((exm_cls (M := M) X ev).1).keeps k
      rw [List.forIn_cons]
      refine wpAny_bind (wpAny_bind (L.at ?_))
      rw [if_neg (by decide)]
      exact wpAny_pure (ih (fun c' h' => hm c' (List.mem_cons_of_mem _ h')) q)
  have loop2 : ∀ (r : List Value) {d' : Bool} {Q : (Option Bool × Unit) → Shared → Prop} {E : Value → Shared → Prop}, exmAny K cls r = some d' → Q (if d' = true then (some true, ()) else (none, ())) ⟨hh, g, d, tk, os⟩ → wpAny M A (forIn r ((none, ()) : Option Bool × Unit) fun c __s => do
            let __do_lift ← isSubtype cls c
            if __do_lift = true then pure (ForInStep.done (some true, ())) else pure (ForInStep.yield (none, ()))) Q E ⟨hh, g, d, tk, os⟩ := by
    intro r
    induction r with
    | nil =>
      intro d' Q E hd q
      cases hd
      exact wpAny_pure q
    | cons c r ih =>
      intro d' Q E hd q
      obtain ⟨b1, d1, x1, y1, z1⟩ := exmAny_cons hd
      have L := ((exm_cls (M := M) X x1).2).keeps k
      rw [List.forIn_cons]
      refine wpAny_bind (wpAny_bind (L.at ?_))
      cases b1 with
      | true =>
        rw [if_pos rfl]
        subst z1
        exact wpAny_pure (wpAny_pure q)
      | false =>
        rw [if_neg (by decide)]
        refine wpAny_pure (ih y1 ?_)
        rw [z1, Bool.false_or] at q
        exact q
  refine wpAny_bind (loop1 cs (hc hx) ?_)
  refine wpAny_bind (LT.at ?_)
  refine wpAny_bind (loop2 cs hx ?_)
  cases b with
  | true => exact wpAny_pure q
  | false => exact wpAny_pure q
end
end Lk
namespace Lk
open PySem PySem.Spec PyProof.Rows L2
/-- a caught exception, held as a value -/
def ExV (cls : Value) (d : Option Addr) (a : Addr) : HO := .ext fun h => ∃ (oe : Obj) (vs : Array Value), h.get? a = some oe ∧ Zc cls d oe ∧ oe.data = .fields vs
theorem exV_ok {P : Program} {w : World} {H : Hp} {h : Heap} {a : Addr} {cls : Value} {d : Option Addr} {oe : Obj} {vs : Array Value} (e : h.get? a = some oe) (z : Zc cls d oe) (hd : oe.data = .fields vs) : ObjOk P w H h a (ExV cls d a) :=
  ⟨⟨oe, vs, e, z, hd⟩, ⟨oe, e⟩, fun _ _ ⟨o, v, q, r⟩ k => ⟨o, v, k o q, r⟩⟩
section
variable {X : Cx} {pins : List (Addr × Obj)} {σ : L2.St} {H : Hp} {s : Shared}
/-- an object that is new since the entry is tracked from here on -/
theorem inv_track {a : Addr} {oe : Obj} {vs : Array Value} {o : HO} (I : Inv X pins σ H s) (he : s.heap.get? a = some oe) (hd : oe.data = .fields vs) (na : H a = none) (n0 : X.s_0.heap.get? a = none) (nL : a ≠ X.env.locals) (np : ∀ p ∈ X.pn ++ pins, p.1 ≠ a)
    (ok : ObjOk X.prog X.w (upd H a o) s.heap a o) : Inv X pins σ (upd H a o) s := by
  refine ⟨I.ok, I.os, I.bare, ⟨I.base.keep, I.base.slot, fun b u e n hx => ?_, I.base.there, fun b xs e => ?_, fun b u v e => ?_, fun b ps e => ?_⟩, I.loc, I.cell, ?_, fun x c e => ?_, fun p hp => ?_, fun b u e => ?_, I.len⟩
  · rw [upd_ne (fun z => by rw [z, n0] at e; cases e)]
    exact I.base.free b u e n hx
  · have q := I.base.tups b xs e
    rw [upd_ne (ne_of_none q na)]
    exact q
  · have q := I.base.frzs b u v e
    rw [upd_ne (ne_of_none q na)]
    exact q
  · obtain ⟨m, q⟩ := I.base.tbls b ps e
    exact ⟨m, by rw [upd_ne (ne_of_none q na)]; exact q⟩
  · rw [upd_ne nL.symm]
    exact I.free
  · have nc : c ≠ a := fun z => by
      obtain ⟨v, o', ho, hv⟩ := I.cell x c e
      rw [z, he] at ho
      cases ho
      rw [hd] at hv
      cases hv
    rw [upd_ne nc]
    exact I.freeC x c e
  · obtain ⟨e, n, r⟩ := I.pin p hp
    exact ⟨e, by rw [upd_ne (np p hp)]; exact n, r⟩
  · by_cases hb : b = a
    · subst hb
      rw [upd_same] at e
      cases e
      exact ok
    · rw [upd_ne hb] at e
      exact (I.hok b u e).stay (fun _ _ _ q => q) (fun c q => by rw [upd_ne (ne_of_none q na)]; exact q) fun c xs q => by rw [upd_ne (ne_of_none q na)]; exact q
theorem inv_unpin {q : Addr × Obj} (I : Inv X (q :: pins) σ H s) : Inv X pins σ H s :=
  ⟨I.ok, I.os, I.bare, I.base, I.loc, I.cell, I.free, I.freeC, fun p hp => I.pin p ((List.mem_append.mp hp).elim (fun z => List.mem_append_left _ z) fun z => List.mem_append_right _ (List.mem_cons_of_mem _ z)), I.hok, I.len⟩
theorem inv_unsuiteK {a : Addr} {q : Addr × Obj} {pn' : List (Addr × Obj)} (I : Inv (X.suite a (q :: (X.pn ++ pins))) pn' σ H s) (ok : X.Ok) : Inv X (q :: pins) σ H s :=
  ⟨ok, I.os, I.bare, I.base, I.loc, I.cell, I.free, I.freeC, fun p hp => I.pin p (List.mem_append_left _ (by
    rcases List.mem_append.mp hp with z | z
    · exact List.mem_cons_of_mem _ (List.mem_append_left _ z)
    · rcases List.mem_cons.mp z with z | z
      · rw [z]; exact List.mem_cons_self
      · exact List.mem_cons_of_mem _ (List.mem_append_right _ z))), I.hok, I.len⟩
end
/-- the names of a tuple of classes -/
inductive TupNames (X : Cx) : List Expr → List Value → Prop
  | nil : TupNames X [] []
  | cons {x : Str} {c : Value} {np : Pos} {es : List Expr} {cs : List Value} (h : Names X x c) (r : TupNames X es cs) : TupNames X (.Name x np :: es) (c :: cs)
theorem TupNames.run {X : Cx} {es : List Expr} {cs : List Value} (T : TupNames X es cs) {a : Addr} {pn : List (Addr × Obj)} {σ : L2.St} {H : Hp} {s : Shared} {tpos : Pos} (S : Inv (X.suite a pn) [] σ H s) {E : Value → Shared → Prop} : ∀ {Q : List Value → Shared → Prop}, Q cs s →
    wpAny (model X.prog X.w) (X.A.mark (some (.ref a))) (spliced (backTo tpos (starEach es X.env))) Q E s := by
  induction T with
  | nil => intro Q q; exact wpAny_items_nil q
  | cons hc r ih =>
    intro Q q
    refine wpAny_items_cons ?_
    obtain ⟨hg, hdbg, hm | ⟨hm, hv, hnn⟩⟩ := hc
    · exact ld_glob (X := X.suite a pn) S hg hm (ih q) hdbg
    · exact ld_blt (X := X.suite a pn) S hg hm hv (ih q) hnn hdbg
theorem TupNames.length {X : Cx} {es : List Expr} {cs : List Value} (T : TupNames X es cs) : cs.length = es.length := by
  induction T with
  | nil => rfl
  | cons _ _ ih => rw [List.length_cons, List.length_cons, ih]
/-- what a clause of a tuple of classes wishes: behind its suite the exception is held as a value -/
def wAsT (K : PySem.W.Frag) (cs : List Value) (i : Nat) (ts : Addr → Value → Option Addr → TS) (Wout : WX) (D : Ends) : WX := fun cls d σ H =>
  ∃ b, PySem.W.exmAny K cls cs = some b ∧ (b = true → ∀ a, H a = none → ts a cls d { nx := fun σ' H' => H' a = none → D.nx (σ'.set i none) (upd H' a (ExV cls d a)), rt := fun _ _ => False, bk := fun _ _ => False, ct := fun _ _ => False } (σ.set i (some (.ref a))) H) ∧
    (b = false → Wout cls d σ H)
section
variable {X : Cx} {n : Str} {cs : List Value} {es : List Expr} {i kk : Nat} {body suite : List Stmt} {b₀ : Stmt} {tpos pos pos' : Pos} {tb : WX → TS} {ts : Addr → Value → Option Addr → TS} {Wout : WX}
theorem ps_try_asT (hs : X.stack = X.env :: X.outer) (hf : X.env.frame = some X.env.locals) (hex : X.ex = []) (hN : X.N.Nodup) (hi : X.N[i]? = some n) (hln : X.env.kindOf n = some .local) (hl : es.length ≤ 100) (hc : TupNames X es cs) (tk : Takes X Wout)
    (hb : ∀ (W : WX) (pn : List (Addr × Obj)) (xe : Value → Shared → Prop), Takes (X.tr pn xe) W → PassesOwn (model X.prog X.w) X.A X.env xe → PSs (X.tr pn xe) body (tb W))
    (hsu : ∀ (a : Addr) (oe : Obj) (cls : Value) (d : Option Addr) (pn : List (Addr × Obj)), Zc cls d oe → (∃ vs, oe.data = .fields vs) → PSs (X.suite a ((a, oe) :: pn)) (b₀ :: suite) (ts a cls d)) :
    PS X (.Try body [.ExceptHandler (some (.Tuple es kk tpos)) (some n) (b₀ :: suite) pos'] [] [] pos) (fun D σ H => tb (wAsT X.K cs i ts Wout D) D σ H) := by
  refine ⟨fun pins s σ H D I h => ?_⟩
  have ok := I.ok
  have hfr : X.A.frames = some (X.env :: X.outer) := by rw [ok.frames, hs]
  have hloc : Loc X.env.scope n := .inl hln
  refine wpAny_Try_except ?_
  refine wpAny_mono ((hb (wAsT X.K cs i ts Wout D) (X.pn ++ pins) (fun e s₁ => wpAny (model X.prog X.w) X.A (noteFrame e X.env) (fun _ s₂ => wpAny (model X.prog X.w) X.A (setFlight e none) (fun _ s₃ =>
    wpAny (model X.prog X.w) X.A (handleBy e X.env [.ExceptHandler (some (.Tuple es kk tpos)) (some n) (b₀ :: suite) pos']) (SP X pins D) X.xe s₃) X.xe s₂) X.xe s₁) (fun u s' xx => ?_) PassesOwn.looking).run [] s σ H D (I.toTry _) h) (fun f s1 hsp => ?_) (fun e s1 he => he)
  · -- the catch
    obtain ⟨a, B, sI, pins', σ', H', cls, d, rfl, J', nb, up, sky, na, os, ag, b, hb1, hyes, hno⟩ := xx
    have J : Inv X pins σ' H' sI := J'.ofTry ok
    have sky' : Sky B (X.env :: X.outer) a (Zc cls d) X.env.locals s'.heap := by rw [← hs]; exact sky
    show wpAny (model X.prog X.w) X.A (noteFrame (.ref a) X.env) _ _ _
    refine Sky.land Zc.steady hfr hf sky' fun h3 fl3 up3 => ?_
    have J3 : Inv X pins σ' H' { s' with heap := h3 } := J.landed nb fl3.1 (up.trans up3) os ag
    obtain ⟨oe3, vs3, he3, hz3, hd3⟩ := fl3.there
    have notFr : ∀ {h : Heap} {o : Obj} {vs : Array Value}, h.FunFrames B (X.env :: X.outer) → h.get? a = some o → o.data = .fields vs → a ∉ frs (X.env :: X.outer) := fun {h o vs} ff e dd hm => by
      obtain ⟨_, o', e', hnf⟩ := ff.mem hm
      rw [e] at e'; cases e'
      exact hnf _ dd
    have nfr := notFr fl3.2.2.1 he3 hd3
    have nL : a ≠ X.env.locals := fun z => nfr (List.mem_filterMap.mpr ⟨X.env, List.mem_cons_self, by rw [hf, z]⟩)
    have nF : a ∉ X.fs := fun hm => by
      obtain ⟨e, he, q⟩ := List.mem_filterMap.mp hm
      exact nfr (List.mem_filterMap.mpr ⟨e, List.mem_cons_of_mem _ he, q⟩)
    have nSt : a ∉ frs X.stack := by rw [hs]; exact nfr
    have nB : B.get? a = none := fl3.2.1
    have nI : sI.heap.get? a = none := by
      cases e : sI.heap.get? a with
      | none => rfl
      | some o =>
        have z := nb a o e nSt
        rw [nB] at z
        cases z
    have n0 : X.s_0.heap.get? a = none := by
      cases e : X.s_0.heap.get? a with
      | none => rfl
      | some o =>
        obtain ⟨o', z⟩ := J.base.there a o e (by rw [hex]; exact fun z => nomatch z)
        rw [nI] at z
        cases z
    have np : ∀ p ∈ X.pn ++ pins, p.1 ≠ a := fun p hp z => by
      have e := (J.pin p hp).1
      rw [z, nI] at e
      cases e
    have S3 := J3.suite he3 hd3 na nL nF
    refine wpAny_handleBy_cons (codeAny_handlers_test ?_) (by intro q; cases q)
    refine wpAny_Tuple (hc.run (tpos := tpos) S3 ⟨?_, ?_⟩)
    · rw [hc.length]
      exact Nat.le_trans hl (by decide)
    obtain ⟨hT, eT⟩ : ∃ hT, hT = h3.push { cls := .type "tuple", data := .seq cs.toArray } := ⟨_, rfl⟩
    have kT : ∀ b o, h3.get? b = some o → hT.get? b = some o := fun b o e => by rw [eT]; exact Heap.get?_push_of_some _ e
    have eP : hT.get? h3.objs.size = some { cls := .type "tuple", data := .seq cs.toArray } := by rw [eT]; exact Heap.get?_push_size h3 rfl
    show wpAny _ _ (excMatches (.ref a) (.ref h3.objs.size)) _ _ ⟨h3.push { cls := .type "tuple", data := .seq cs.toArray }, _, _, _, _⟩
    rw [← eT]
    have flT : HandSPX.FlyingZ B (X.env :: X.outer) a (Zc cls d) hT := by
      obtain ⟨f1, f2, f3, oe, vs, T, oT, ts', g1, g2, g3, g4, g5, g6, g7, g8, g9⟩ := fl3
      exact ⟨fun b o e => kT b o (f1 b o e), f2, f3.of_keeps fun b o e _ => ⟨o, kT b o e, rfl⟩, oe, vs, T, oT, ts', kT _ _ g1, g2, g3, g4, g5, g6, kT _ _ g7, g8, g9⟩
    have upT : h3.UpToSlots hT := Heap.UpToSlots.of_keeps kT
    have LT : PySem.W.Looks (model X.prog X.w) hT (typeOf (.ref a)) cls := fun A Q E s k q => wpAny_typeOf_ref (k _ _ (kT _ _ he3)) (by rw [hz3.1]; exact q)
    have LM := exm_tupN (M := model X.prog X.w) (J3.kIn.keeps kT) LT eP hb1
    refine LM.here (s := ⟨hT, _, _, _, _⟩) ?_
    cases b with
    | true =>
      refine codeAny_handlers_suite_as ?_
      refine HandSPX.lands_againZ (s := ⟨hT, _, _, _, _⟩) flT fun h4 fl4 up4 => ?_
      have J4 : Inv X pins σ' H' { s' with heap := h4 } := J.landed nb fl4.1 (((up.trans up3).trans upT).trans up4) os ag
      obtain ⟨oe4, vs4, he4, hz4, hd4⟩ := fl4.there
      have S4 := J4.suite he4 hd4 na nL nF
      refine store_ok (X := X.suite a ((a, oe4) :: (X.pn ++ pins))) (v := .ref a) S4 hN hi hloc rfl (fun s5 S5 => ?_) (.inr hln)
      refine wpAny_mono ((hsu a oe4 cls d (X.pn ++ pins) hz4 ⟨_, hd4⟩).run [] s5 _ H' _ S5 (hyes rfl a na)) (fun f s6 hsp => ?_) (fun _ _ z => False.elim z)
      cases f with
      | next =>
        obtain ⟨σ6, H6, S6, q6⟩ := hsp
        refine gone_ok (inv_unsuiteK S6 ok) hN hi hln fun s7 J7 => ?_
        obtain ⟨e7, n7, _⟩ := J7.pin (a, oe4) (List.mem_append_right _ List.mem_cons_self)
        refine ⟨_, _, inv_track (inv_unpin J7) e7 hd4 n7 n0 nL np (exV_ok e7 hz4 hd4), q6 n7⟩
      | brk =>
        obtain ⟨σ6, H6, S6, q6⟩ := hsp
        exact q6.elim
      | cont =>
        obtain ⟨σ6, H6, S6, q6⟩ := hsp
        exact q6.elim
      | ret u =>
        obtain ⟨v6, σ6, H6, S6, r6, q6⟩ := hsp
        exact q6.elim
    | false =>
      show wpAny _ X.A (handleBy (.ref a) X.env []) _ _ _
      refine wpAny_handleBy_nil ?_
      obtain ⟨k1, k2, k3, oe, vs, T, oT, ts', he, hz, hd, h1, hr⟩ := id flT
      unfold PySem.passOn
      refine wpAny_bind (wpAny_field he hd h1 ?_)
      rw [if_neg (show ¬ ((Value.ref T == Value.none) = true) from by simp)]
      have fin : wpAny (model X.prog X.w) X.A (setFlight (.ref a) X.env.frame) (fun _ s4 => wpAny (model X.prog X.w) X.A (throw (.ref a) : Sem Flow) (SP X pins D) X.xe s4) X.xe { s' with heap := hT } := by
        rw [hf]
        refine HandSPX.setFlight_upZ flT fun h4 hh4 up4 => wpAny_throw (tk _ _ ?_)
        exact ⟨a, B, sI, pins, σ', H', cls, d, rfl, J, nb, ((up.trans up3).trans upT).trans up4, .inr (.inr (by rw [hs]; exact hh4)), na, os, ag, hno rfl⟩
      first
        | exact wpAny_bind (wpAny_pure (wpAny_bind fin))
        | exact wpAny_bind fin
  · cases f with
    | next =>
      obtain ⟨σ', H', J', q⟩ := hsp
      exact wpAny_execs_nil ⟨σ', H', J'.ofTry ok, q⟩
    | brk =>
      obtain ⟨σ', H', J', q⟩ := hsp
      exact ⟨σ', H', J'.ofTry ok, q⟩
    | cont =>
      obtain ⟨σ', H', J', q⟩ := hsp
      exact ⟨σ', H', J'.ofTry ok, q⟩
    | ret u =>
      obtain ⟨v, σ', H', J', r, q⟩ := hsp
      exact ⟨v, σ', H', J'.ofTry ok, r, q⟩
end
end Lk
namespace Lk
open PySem PySem.Spec PySem.Calls PySem.W
section
variable {K : Frag} {D : Addr} {od : Option Obj}
theorem findObj_bind {name : Str} {a g : Value} (hc : (clsIn K D).isSome = true) (ha : findIn K (.ref D) name = some (some a)) (hg : specialIn K a "__get__" = some (some g)) (ht : takesIn K a = some true) : findObj K D od name = some (.bind g a) := by
  obtain ⟨cd, e⟩ := Option.isSome_iff_exists.mp hc
  simp [findObj, e, ha, hg, ht]
theorem cls_asked {prog : Program} {w : World} {A : Around} {E : Value → Shared → Prop} {Q : Option Value → Shared → Prop} {s : Shared} {x : Addr} {ox : Obj} (C : L2.ExcC K D) (kin : K.In s.heap) (I : InstAt s.heap x ox D od)
    (q : Q (some (.ref D)) { s with toks := s.toks + 1 }) : wpAny (model prog w) A (getAttr? (.ref x) "__class__") Q E s := by
  have fo : findObj K D od "__class__" = some (.bind (.builtin "getset_descriptor.__get__") (.builtin "object.__class__")) := findObj_bind (by obtain ⟨cd, e, _⟩ := any_some C.hd; rw [e]; rfl) C.ha C.hn C.ht
  obtain ⟨hp, g, d, t, os⟩ := s
  have Ty := I.type (M := model prog w)
  have Lg := looks_findIn (M := model prog w) kin C.hg
  have Lk := looks_findIn (M := model prog w) kin C.hk
  have Lf := looks_find (M := model prog w) kin I fo
  have sb : Looks (model prog w) hp (isInstance (.ref x) (.type "BaseException")) true := Ty.andThen (looks_subIn kin C.hs)
  have ne : (onTheHeap (Value.ref D) && Value.builtin "BaseException.__getattribute__" == Value.builtin "object.__getattribute__") = false := by
    rw [show (Value.builtin "BaseException.__getattribute__" == Value.builtin "object.__getattribute__") = false from by decide +kernel, Bool.and_false]
  unfold getAttr? getAttrBy? getAttrBy
  refine wpAny_bind (wpAny_mkText (wpAny_bind (wpAny_attempt (wpAny_holding (wpAny_bind (Ty.at (wpAny_bind (Lg.at ?_))))))))
  show wpAny _ _ (if (onTheHeap (Value.ref D) && Value.builtin "BaseException.__getattribute__" == Value.builtin "object.__getattribute__") = true then _ else _) _ _ _
  rw [if_neg (by rw [ne]; exact Bool.false_ne_true)]
  unfold getAttrByItsOwn hookBefore
  refine wpAny_bind ?_
  rw [if_pos (show onTheHeap (Value.ref D) = true from rfl)]
  refine Lk.at (wpAny_bind (wpAny_attempt (wpAny_holding ?_)))
  unfold callGetattribute
  rw [if_neg (by decide)]
  unfold boundAndCalled
  rw [PySem.F.excAttr_ValueError.ga.bind (.ref x)]
  refine wpAny_bind (wpAny_pure ?_)
  show wpAny _ _ (call (.builtin "BaseException.__getattribute__") [.ref x, .str "__class__" t]) _ _ _
  refine wpAny_call (codeAny_call_builtin PySem.F.excAttr_ValueError.ga.plain PySem.F.entry_bexc_ga ?_)
  refine @check_slot (model prog w) _ _ ⟨hp, g, d, t + 1, os⟩ "BaseException.__getattribute__" "BaseException" "__getattribute__" (.ref x) [.str "__class__" t] [] _ (by decide +kernel) (by decide +kernel) sb (PySem.F.args_bexc_ga (.ref x) (.str "__class__" t)) ?_
  unfold Builtin.«object.__getattribute__»
  refine wpAny_bind (wpAny_of_eq (a := ((Value.ref x : Value), [Value.str "__class__" t])) (by first | rfl | (simp only [slotArgs]; rfl)) ?_)
  refine wpAny_bind (wpAny_pure (wpAny_bind (Ty.at (wpAny_bind (Lf.at ?_)))))
  show wpAny _ _ (holding [Value.builtin "object.__class__"] (call (.builtin "getset_descriptor.__get__") [.builtin "object.__class__", .ref x, .ref D]) >>= ret) _ _ _
  refine wpAny_bind (wpAny_holding (wpAny_call (class_get (s := ⟨hp, g, d, t + 1, os⟩) (ox := ox) (od := od) kin I C.hm ?_)))
  refine wpAny_pure ?_
  show wpAny _ _ (handedOut (.ref D)) _ _ _
  rw [handedOut_of (v := .ref D) rfl]
  first
    | exact wpAny_pure (wpAny_pure q)
    | exact wpAny_pure q
    | exact wpAny_pure (wpAny_bind (wpAny_pure (wpAny_pure q)))
theorem kit_held {x : Addr} {ox : Obj} (C : L2.ExcC K D) : KitX K (.ref x) (.ref D) (fun h => InstAt h x ox D od) where
  ty := fun _ _ _ I => I.type
  it := fun _ _ kin _ => by
    obtain ⟨cdD, hcD, _⟩ := any_some C.hd
    unfold clsIn at hcD
    split at hcD
    · rename_i c' d' cd' sl' ho
      intro A' Q' E' s' k q
      unfold isType loadHead
      exact wpAny_bind (wpAny_loadPart (k _ _ (kin _ _ ho)) (wpAny_pure q))
    · cases hcD
  ne := fun h tp dd its n sl kin htp => by
    obtain ⟨cdD, hcD, _⟩ := any_some C.hd
    refine Bool.eq_false_iff.mpr fun q => ?_
    have e : D = tp := Value.ref.inj (beq_iff_eq.mp q)
    subst e
    unfold clsIn at hcD
    split at hcD
    · rename_i c' d' cd' sl' ho
      cases (kin _ _ ho).symm.trans htp
    · cases hcD
  ca := fun kin I q => cls_asked C kin I q
end
end Lk
namespace Lk
open PySem PySem.Spec PyProof.Rows L2
/-- an exception that was caught stands at a, its fields (none, or those of its dict) -/
def Held (H : Hp) (a D : Addr) (fs : List (Str × V)) : Prop := ∃ d, H a = some (ExV (.ref D) d a) ∧ ((d = none ∧ fs = []) ∨ ∃ dd, d = some dd ∧ H dd = some (.xd fs))
theorem Held.look {P : Program} {w : World} {H : Hp} {h : Heap} {a D : Addr} {fs : List (Str × V)} (x : Held H a D fs) (ok : HOk P w H h) : ∃ oe od, PySem.W.InstAt h a oe D od ∧ ((od = none ∧ fs = []) ∨ ∃ (o : Obj) (mA : Str → Option Value), od = some o ∧ (∀ name, PySem.W.lookIn name o = some (mA name)) ∧ ∀ f, RelO (fs.lookup f) (mA f)) := by
  obtain ⟨d, ha, hd⟩ := x
  obtain ⟨⟨oe, vs, e, ⟨z1, z2⟩, hv⟩, _⟩ := (show ObjOk P w H h a (ExV (.ref D) d a) from ok a _ ha)
  have nc : PySem.W.notCls oe = true := by unfold PySem.W.notCls; rw [hv]
  rcases hd with ⟨rfl, hf⟩ | ⟨dd, rfl, hx⟩
  · exact ⟨oe, none, ⟨e, z1, nc, by rw [z2]; trivial⟩, .inl ⟨rfl, hf⟩⟩
  · obtain ⟨mA, n, r⟩ := (show ObjOk P w H h dd (.xd fs) from ok dd _ hx)
    obtain ⟨o, ho, hl⟩ := lookIn_ns n
    exact ⟨oe, some o, ⟨e, z1, nc, by rw [z2]; exact ho⟩, .inr ⟨o, mA, rfl, hl, r⟩⟩
/-- isinstance(caught, c) -/
def rIsV (K : PySem.W.Frag) : List V → Hp → VK → Prop := fun xs H Q => ∃ (a D : Addr) (fs : List (Str × V)) (c : V) (u : Value) (b : Bool), xs = [.ref a, c] ∧ Held H a D fs ∧ ExcC K D ∧ ClsV c u ∧ PySem.W.kitOne K (.ref D) u = some b ∧ Q (.bl b) H
/-- isinstance(caught, (c1, c2, ..)) -/
def rIsVT (K : PySem.W.Frag) : List V → Hp → VK → Prop := fun xs H Q => ∃ (a D tp : Addr) (fs : List (Str × V)) (cs : List V) (us : List Value) (b : Bool), xs = [.ref a, .ref tp] ∧ H tp = some (.tup cs) ∧ Held H a D fs ∧ ExcC K D ∧ Paired ClsV cs us ∧ PySem.W.kitAny K (.ref D) us = some b ∧ Q (.bl b) H
section
variable {X : Cx}
theorem call_isV : CallR X (.builtin "isinstance") (rIsV X.K) := by
  intro pins s σ H xs us Q I r h
  obtain ⟨a, D, fs, c, u, b, rfl, hh, C, k, e, q⟩ := h
  obtain ⟨u1, u2, rfl, r1, r2⟩ := vals2 r
  cases (show u1 = Value.ref a from r1)
  have e2 := k.eq r2
  subst e2
  obtain ⟨oe, od, J, _⟩ := hh.look I.hok
  exact PySem.W.kia_one (kit_held C) I.kIn J e (fun z => nomatch z) fun tk => ⟨.bl b, H, I.tok tk, rfl, q⟩
theorem call_isVT : CallR X (.builtin "isinstance") (rIsVT X.K) := by
  intro pins s σ H xs us Q I r h
  obtain ⟨a, D, tp, fs, cs, ws, b, rfl, hT, hh, C, k, e, q⟩ := h
  obtain ⟨u1, u2, rfl, r1, r2⟩ := vals2 r
  cases (show u1 = Value.ref a from r1)
  cases (show u2 = Value.ref tp from r2)
  obtain ⟨oe, od, J, _⟩ := hh.look I.hok
  obtain ⟨_, its, rv, o, h1, h2, n, h3⟩ := (show ObjOk X.prog X.w H s.heap tp (.tup cs) from I.hok tp _ hT)
  have e3 := ClsV.all k rv
  subst e3
  obtain ⟨oc, odd, dt, sl⟩ := o
  simp only at h2 h3
  subst h2 h3
  exact PySem.W.kia_tup (kit_held C) I.kIn J h1 e (fun z => nomatch z) fun tk => ⟨.bl b, H, I.tok tk, rfl, q⟩
/-- caught.f -/
def tXv (K : PySem.W.Frag) (f : Str) (te : TE) : TE := fun σ H Q => te σ H fun x H1 => ∃ (a D : Addr) (fs : List (Str × V)) (v : V), x = .ref a ∧ Held H1 a D fs ∧ XfC K D ∧ PySem.W.findIn K (.ref D) f = some none ∧ fs.lookup f = some v ∧ Q v H1
theorem pe_xv {e : Expr} {te : TE} {pos : Pos} {n : Str} (he : PE X e te) (hb : attributeBase e n X.env (eval e X.env) = eval e X.env := by rfl) : PE X (.Attribute e n pos) (tXv X.K n te) := by
  refine ⟨fun pins s σ H Q I h => ?_⟩
  refine attr_of hb (thn (he.run pins s σ H _ I h) fun u s1 hh => ?_)
  obtain ⟨x, H1, I1, rx, a, D, fs, v, rfl, hd, T, hno, l, q⟩ := hh
  cases (show u = Value.ref a from rx)
  obtain ⟨oe, od, J, w⟩ := hd.look I1.hok
  rcases w with ⟨_, rfl⟩ | ⟨o, mA, rfl, hl, hr⟩
  · cases l
  · obtain ⟨u, hu, ru⟩ := RelO.some_of (v := v) (o := mA n) (by rw [← l]; exact hr n)
    exact HandSPX.exc_get I1.kIn J T.ga T.gg T.exC (PySem.W.findObj_own T.hdC hno rfl (by rw [hl, hu])) (handed_of ru) ⟨v, H1, I1.tok _, ru, q⟩
end
end Lk
namespace Lk
open PySem PySem.Spec PyProof.Rows L2
theorem Held.same {H H' : Hp} {a D : Addr} {fs : List (Str × V)} (s : Same H H') (x : Held H a D fs) : Held H' a D fs := by
  obtain ⟨d, ha, hd⟩ := x
  exact ⟨d, s _ _ ha, hd.imp id fun ⟨dd, e, q⟩ => ⟨dd, e, s _ _ q⟩⟩
end Lk

namespace Lk
open PySem PySem.Spec PyProof.Rows L2
section
variable {X : Cx} {k m : Nat} {x : Str} {ps : List Str} {sp : Sp} {p pos : Pos} {e : Expr} {es : List Expr} {t : TA} {W : WX}
end
end Lk
set_option maxRecDepth 100000
set_option maxHeartbeats 4000000
namespace Lk
open PySem PySem.Spec PyProof.Rows L2 LamX
/-! ### lambdas: what stays when a table is written -/
/-- all but the box of draws and the tables of code objects -/
def ExtB (b : Addr) (H H' : Hp) : Prop := ∀ a o, a ≠ b → (∀ ps, o ≠ .tbl ps) → H a = some o → H' a = some o
theorem ExtB.refl (b : Addr) (H : Hp) : ExtB b H H := fun _ _ _ _ e => e
theorem ExtB.trans {b : Addr} {H H1 H2 : Hp} (x : ExtB b H H1) (y : ExtB b H1 H2) : ExtB b H H2 := fun a o n t e => y a o n t (x a o n t e)
theorem ExtB.of {b : Addr} {H H' : Hp} (x : Oth b H H') : ExtB b H H' := fun a o n _ e => x a o n e
theorem ExtB.same {b : Addr} {H H' : Hp} (x : Same H H') : ExtB b H H' := fun a o _ _ e => x a o e
theorem ExtB.ext {b : Addr} {H H' : Hp} (x : ExtN H H') : ExtB b H H' := fun a o _ t e => x a o e t
theorem lst_tbl {xs : List V} (ps : Array Value) : HO.lst xs ≠ .tbl ps := fun z => nomatch z
theorem tup_tbl {xs : List V} (ps : Array Value) : HO.tup xs ≠ .tbl ps := fun z => nomatch z
theorem frz_tbl {o : Obj} {u : HO} (ps : Array Value) : HO.frz o u ≠ .tbl ps := fun z => nomatch z
theorem IsBox.extN {H H' : Hp} {b : Addr} (x : ExtN H H') (h : IsBox H b) : IsBox H' b := by
  obtain ⟨i, j, k, e⟩ := h
  exact ⟨i, j, k, x _ _ e lst_tbl⟩
theorem ExtB.lst {b a : Addr} {H H' : Hp} {xs : List V} (x : ExtB b H H') (n : a ≠ b) (e : H a = some (.lst xs)) : H' a = some (.lst xs) := x a _ n lst_tbl e
theorem ExtB.pals {b a : Addr} {H H' : Hp} {ps : List (Str × Str)} (x : ExtB b H H') (hb : IsBox H b) (e : PalsAt H a ps) : PalsAt H' a ps := by
  obtain ⟨bs, h1, h2, h3⟩ := e
  exact ⟨bs, x _ _ (hb.ne_tup h1) tup_tbl h1, fun c hc => x _ _ (hb.ne_tup (h2 c hc)) tup_tbl (h2 c hc), h3⟩
/-- tables stay, where only a box of draws is written -/
theorem Tabs.oth {T : List (Addr × Str)} {H H' : Hp} {b : Addr} (hb : IsBox H b) (x : Oth b H H') (t : Tabs T H) : Tabs T H' := fun p hp => by
  obtain ⟨ps, h1, h2, h3⟩ := t p hp
  obtain ⟨i, j, k, e⟩ := hb
  have n1 : ∀ {c : Addr} {o : HO}, H c = some o → o ≠ .lst ([i, j, k].map V.int) → c ≠ b := fun {c o} q n z => by
    rw [z, e] at q
    exact n (Option.some.inj q).symm
  refine ⟨ps, x _ _ (n1 h1 (fun z => nomatch z)) h1, h2, fun pos cv hc => ?_⟩
  obtain ⟨c, e1, e2⟩ := h3 pos cv hc
  exact ⟨c, e1, x _ _ (n1 e2 (fun z => by unfold CodeO at z; cases z)) e2⟩
theorem Tabs.same {T : List (Addr × Str)} {H H' : Hp} (x : Same H H') (t : Tabs T H) : Tabs T H' := t.ext fun b o e => x b o e
theorem Tabs.lst {T : List (Addr × Str)} {H : Hp} {D : Addr} {xs ys : List V} (hD : H D = some (.lst xs)) (t : Tabs T H) : Tabs T (upd H D (.lst ys)) := fun p hp => by
  obtain ⟨ps, h1, h2, h3⟩ := t p hp
  refine ⟨ps, (upd_ne (fun z => by rw [z, hD] at h1; cases h1)).trans h1, h2, fun pos cv hc => ?_⟩
  obtain ⟨c, e1, e2⟩ := h3 pos cv hc
  exact ⟨c, e1, (upd_ne (fun z => by rw [z, hD] at e2; unfold CodeO at e2; cases e2)).trans e2⟩
/-! ### a def whose code object is known -/
section
variable {P : Program} {w : World} {K : PySem.W.Frag} {mg : Str → Option Value} {base : Heap} {k : Nat} {f : Addr} {fd : FuncData} {N ps : List Str} {sp : Sp}
end
theorem takes_len {X : Cx} {W : WX} (t : Takes X W) : Takes X (fun c d σ H => σ.length = X.N.length → W c d σ H) := fun u s' ⟨a, B, sI, pins, σ, H, cls, d, e, I, nb, up, sky, na, os, ag, w⟩ =>
  t u s' ⟨a, B, sI, pins, σ, H, cls, d, e, I, nb, up, sky, na, os, ag, w I.len⟩
/-! ### who is in the row already: refused -/
/-! ### promises of the law's, with tables -/
def spRightN (T : List (Addr × Str)) : Sp := fun vs H Q _ => ∃ b : Addr, vs = [.ref b] ∧ IsBox H b ∧ Tabs T H ∧ ∀ H', ExtB b H H' → Tabs T H' → Q (.bl true) H'
def spLawN (K : PySem.W.Frag) (T : List (Addr × Str)) : Sp := fun vs H Q _ => ∃ (a : Addr) (ns : List Int), vs = [.ref a] ∧ SqL K H a (ns.map V.int) ∧ ns.length ≤ 63 ∧ Tabs T H ∧ ∀ H', Q (.bl true) H'
/-! ### calls by all their names, turned about -/
section
variable {X : Cx} {k n : Nat} {x : Str} {ps ks : List Str} {sp : Sp} {p pos : Pos} {kws : List Keyword} {tk : TA}
end
end Lk
set_option maxRecDepth 100000
set_option maxHeartbeats 4000000
namespace Lk
open PySem PySem.Spec PyProof.Rows L2 LamX
/-! ### defs that write a thing's text: asked for only where nobody writes one around them -/
structure RoomG (k : Nat) (A : Around) : Prop where
  r : Room k A
  gd : A.guards = some []
theorem RoomG.mono {j k : Nat} {A : Around} (z : RoomG k A) (h : j ≤ k) : RoomG j A := ⟨z.r.mono h, z.gd⟩
structure FnOkG (P : Program) (w : World) (K : PySem.W.Frag) (mg : Str → Option Value) (base : Heap) (k : Nat) (f : Addr) (fd : FuncData) (ps : List Str) (sp : Sp) : Prop where
  len : ∀ vs H Q E, sp vs H Q E → vs.length = ps.length
  run : ∀ (A : Around) (out : List Env) (s : Shared) (H : Hp) (ar : Args) (us : List Value) (vs : List V) (Q : VK) (E : XK), RoomG k A → Env0 P w K mg base A out s H → BindsTo s fd ar (ps.zip us) → Vals vs us → sp vs H Q E →
    codeAny (model P w) A (.call (.ref f) ar) (CR CX0 out P w H s Q E) s
section
variable {P : Program} {w : World} {K : PySem.W.Frag} {mg : Str → Option Value} {base : Heap} {k : Nat} {f : Addr} {fd : FuncData} {N ps : List Str} {sp : Sp}
/-- its body, by rules; its code object is known -/
theorem fokG {x qual : Str} {st : Stmt} {cd : Value} (F : Fun K x qual st f fd) (hcd : fd.code = cd) (S : FnScope N ps (defScope st)) (hn : ∀ vs H Q E, sp vs H Q E → vs.length = ps.length)
    (hb : ∀ (A : Around) (out : List Env) (s : Shared) (H : Hp) (vs : List V) (Q : VK) (E : XK), RoomG k (A.deeper (envOfC qual (defScope st) s.heap.objs.size f cd)) → sp vs H Q E →
      ∃ t, PSs (cxOf CX0 P w K mg base N qual (defScope st) f cd A out s H E).nox (defBody st) t ∧ t { nx := fun _ G => Q .non G, rt := Q } (start N vs) H) : FnOkG P w K mg base (k + 1) f fd ps sp := by
  obtain ⟨oc, od, kV, doc, pm, an, cd', ct, sl, rfl, lk, hc⟩ := F.ex
  have e : cd' = cd := hcd
  subst e
  refine ⟨hn, fun A out s H ar us vs Q E z e0 bd rv hs => ?_⟩
  have kin : K.In s.heap := e0.mod.kin.keeps fun c u q => (e0.bs c u q).1
  have nol : s.heap.NoLimit := e0.mod.nolimit.keeps fun c u q => (e0.bs c u q).1
  refine codeAny_call_function z.r.rm.depth (kin _ _ lk) rfl S.co S.gen rfl (PySem.W.codeRec_of kin hc) (bd _ _ _ _ ?_)
  refine wpAny_newFunctionEnv_cells S.kind ?_ ?_
  · rintro ⟨n, v⟩ hy
    rcases S.par n (List.of_mem_zip hy).1 with c | c
    · exact .inl c
    · exact .inr ⟨c, PySem.W.cellsFrom_some _ _ _ (.inl c)⟩
  rintro env rfl s1 ic
  refine ⟨nol.keeps ic.toInCall.keep, codeAny_func ?_⟩
  obtain ⟨t, pt, qt⟩ := hb A out s H vs Q E ⟨⟨z.r.rm.deeper _, trivial⟩, z.gd⟩ hs
  have I : Inv (cxOf CX0 P w K mg base N qual (defScope st) f cd' A out s H E) [] (start N vs) H s1 := inv_start S z.r.rm.hd e0 (hn _ _ _ _ hs) rv ic
  refine wpAny_mono (pt.nox.run [] s1 (start N vs) H _ I qt) (fun fl s2 ends => ?_) fun _ _ h => h
  cases fl with
  | brk => exact (let ⟨_, _, _, no⟩ := ends; no : False).elim
  | cont => exact (let ⟨_, _, _, no⟩ := ends; no : False).elim
  | next =>
    obtain ⟨σ1, H1, J, w1⟩ := ends
    exact ⟨.non, H1, J.os, J.bare, J.base, J.hok, rfl, w1⟩
  | ret u =>
    obtain ⟨v, σ1, H1, J, ru, w1⟩ := ends
    exact ⟨v, H1, J.os, J.bare, J.base, J.hok, ru, w1⟩
end
structure CalG (P : Program) (w : World) (K : PySem.W.Frag) (mg : Str → Option Value) (base : Heap) (k : Nat) (x : Str) (ps : List Str) (sp : Sp) : Prop where
  ex : ∃ f fd, FnOkG P w K mg base k f fd ps sp ∧ mg x = some (.ref f) ∧ PySem.W.keepIn K (.ref f) = true ∧ Binds K fd ps []
section
variable {X : Cx} {k n : Nat} {x : Str} {ps : List Str} {sp : Sp} {p pos : Pos} {e : Expr} {es : List Expr} {t : TA}
theorem pe_calG (C : CalG X.prog X.w X.K X.mg X.base k x ps sp) (hr : RoomG n X.A) (ha : PA X (e :: es) t) (hle : k ≤ n := by first | decide | omega) (hg : Gl X x := by rfl) (hdb : (x == ("__debug__" : Str)) = false := by decide)
    (he : starEach (e :: es) X.env = (false, eval e X.env) :: starEach es X.env := by rfl) (hpl : (backTo pos (starEach es X.env)).any (·.1) = false := by rfl) :
    PE X (.Call (.Name x p) (e :: es) [] pos) (tCall sp [] E0 t) := by
  obtain ⟨f, fd, F, hm, hk, hb⟩ := C.ex
  refine ⟨fun pins s σ H Q I h => ?_⟩
  refine wpAny_Call_Name_kw (ld_glob I hg hm (PySem.W.callWith_K (h₀ := X.base) I.ok.mod.kin hk (thn (ha.run pos pins s σ H _ I h) ?_) he hpl) hdb)
  rintro us s1 ⟨vs, H1, I1, rv, q⟩
  rw [List.append_nil] at q
  have bd := hb s1 us I1.kIn (by rw [List.append_nil]; exact rv.length.symm.trans (F.len _ _ _ _ q))
  rw [List.append_nil] at bd
  refine ⟨I1.kIn, wpAny_call (codeAny_mono (F.run X.A X.stack s1 H1 ⟨us, []⟩ us vs Q E0 (hr.mono hle) I1.env0 bd rv q) ?_)⟩
  rintro (e | fl) s2 ends
  · exact (ends : False).elim
  cases fl with
  | ret u => exact I1.after ends
  | next => exact (ends : False).elim
  | brk => exact (ends : False).elim
  | cont => exact (ends : False).elim
def rReprG (K : PySem.W.Frag) : List V → Hp → VK → Prop := fun xs H Q => ∃ (a : Addr) (d : PyData), xs = [.ref a] ∧ Dp K H (.ref a) d ∧ d.showable = true ∧ d.hasDict = false ∧ d.depth ≤ 60 ∧ d.shown.length ≤ sizeLine ∧ Q (.str d.shown) H
theorem call_reprG (z : RoomG k X.A) : CallR X (.builtin "repr") (rReprG X.K) := by
  intro pins s σ H xs us Q I r h
  obtain ⟨a, d, rfl, hd, sh, nd, dp, sz, q⟩ := h
  obtain ⟨u, rfl, ru⟩ := vals1 r
  cases ru
  obtain ⟨as, rd⟩ := Dp.reads I d (.ref a) (.ref a) hd rfl
  refine repr_of_reads' rd sh (PyData.noDict_hsm nd) z.gd (by have := z.r.units; omega) (fun _ _ e => e) (fun h' u tk kp => ?_) sz
  exact ⟨.str d.shown, H, I.kept (t' := tk) kp, ⟨u, rfl⟩, q⟩
end
/-! ### the head of a law, one table of code objects tracked -/
theorem law_ranG {P : Program} {w : World} {K : PySem.W.Frag} {mg mb : Str → Option Value} {k : Nat} {fa a c PT : Addr} {fd : FuncData} {x : Str} {sp : Sp} {s : Shared} {vs : List Value} {ns : List Int}
    (kin : K.In s.heap) (ng : s.heap.Ns mainGlobals mg) (nb : s.heap.Ns builtinsNs mb) (bb : ∀ y : Str, y ≠ "__name__" → mb y = bootBuiltins y) (nol : s.heap.NoLimit) (ge : s.gens = #[])
    (hT : s.heap.get? PT = some { cls := .none, data := .fields #[] }) (nT : K.lookup PT = none) (hC : PySem.W.codeHdIn K c PT = true)
    (hbm : ∃ (bm : Addr) (ob : Obj), mg "__builtins__" = some (.ref bm) ∧ bm ≠ builtinsNs ∧ s.heap.get? bm = some ob ∧ ob.cls = .type "module" ∧ ob.dict = some builtinsNs ∧ ob.data = .plain)
    (ha : s.heap.get? a = some { cls := .type "list", data := .seq vs.toArray }) (hi : IntsAre vs ns) (hl : ns.length ≤ sizeLine) (z : Room k callerA)
    (F : ∀ base : Heap, K.In base → base.Ns mainGlobals mg → LamX.TabB base mg c PT → FnOkG P w K mg base k fa fd [x] sp) (bd : ∀ (c : Shared) (u : Value), BindsTo c fd ⟨[u], []⟩ [(x, u)])
    (hsp : ∀ H : Hp, H PT = some (.tbl #[]) → SqL K H a (ns.map V.int) → sp [.ref a] H (fun v _ => v = .bl true) fun _ _ _ => False) :
    codeAny (model P w) callerA (.call (.ref fa) ⟨[.ref a], []⟩) (fun r c => r = .ok (.ret (.bool true)) ∧ OldK s.heap c.heap ∧ c.os = s.os ∧ AllBare c.gens) s := by
  have rv : Vals (ns.map V.int) vs := vals_ints hi
  have neq : a ≠ PT := by
    rintro rfl
    have q := ha.symm.trans hT
    cases q
  have main : ∀ H : Hp, H PT = some (.tbl #[]) → (∀ b, b ≠ PT → H b = none ∨ ∃ o xs, H b = some (.frz o (.lst xs))) → (∀ b, b ≠ PT → H b ≠ none → b = a ∧ K.lookup a = none) → SqL K H a (ns.map V.int) → HOk P w H s.heap →
      codeAny (model P w) callerA (.call (.ref fa) ⟨[.ref a], []⟩) (fun r c => r = .ok (.ret (.bool true)) ∧ OldK s.heap c.heap ∧ c.os = s.os ∧ AllBare c.gens) s := by
    intro H tb on at_ sq ok
    have off : ∀ {b : Addr}, b ≠ a → b ≠ PT → H b = none := fun {b} ne np => Classical.byContradiction fun c => ne (at_ b np c).1
    have seen : ∀ {b : Addr} {o : Obj}, s.heap.get? b = some o → (∀ vs n, o.data ≠ .seq vs n) → (∀ vs, o.data ≠ .fields vs) → (hidT s.heap H).get? b = some o := fun {b o} g n1 n2 => by
      refine hidT_get g (off ?_ ?_)
      · rintro rfl
        rw [ha] at g
        cases g
        exact n1 _ _ rfl
      · rintro rfl
        rw [hT] at g
        cases g
        exact n2 _ rfl
    have hid : ∀ {b : Addr} {m : Str → Option Value}, s.heap.Ns b m → (hidT s.heap H).Ns b m := by
      rintro b m ⟨o, es, ep, g, d, r⟩
      exact ⟨o, es, ep, seen g (fun vs n q => by rw [d] at q; cases q) (fun vs q => by rw [d] at q; cases q), d, r⟩
    have kb : K.In (hidT s.heap H) := fun b o g => by
      refine hidT_get (kin b o g) (Classical.byContradiction fun c => ?_)
      by_cases e : b = PT
      · rw [e, nT] at g
        cases g
      · obtain ⟨eb, no⟩ := at_ b e c
        rw [eb, no] at g
        cases g
    have md : Mod K mg (hidT s.heap H) := by
      obtain ⟨mc, n1, n2⟩ := nol
      exact ⟨kb, hid ng, ⟨mb, hid nb, bb⟩, ⟨mc, hid n1, n2⟩⟩
    have TB : LamX.TabB (hidT s.heap H) mg c PT := by
      obtain ⟨bm, ob, m1, m2, m3, m4, m5, m6⟩ := hbm
      refine ⟨PySem.W.codeHd_of_K kb hC, ⟨bm, ob, m1, m2, ?_, ?_, seen m3 (fun vs n q => by rw [m6] at q; cases q) (fun vs q => by rw [m6] at q; cases q), m4, m5, m6⟩, ?_⟩
      · rintro rfl
        obtain ⟨o, es, ep, g, d, _⟩ := ng
        rw [g] at m3
        cases m3
        rw [m6] at d
        cases d
      · rintro rfl
        rw [hT] at m3
        cases m3
        cases m6
      · rintro rfl
        obtain ⟨o, es, ep, g, d, _⟩ := ng
        rw [hT] at g
        cases g
        cases d
    have e0 : Env0 P w K mg (hidT s.heap H) callerA [] s H :=
      { frames := rfl, mod := md, bs := fun b o g => of_hidT g, bsz := Nat.le_of_eq (hidT_size _ _), funs := trivial, frf := (fun b c => nomatch (show b ∈ ([] : List Addr) from c)), hok := ok, bare := .of_eq ge }
    refine codeAny_mono ((F _ kb (hid ng) TB).run callerA [] s H ⟨[.ref a], []⟩ [.ref a] [.ref a] _ _ ⟨z, rfl⟩ e0 (bd s (.ref a)) (.cons rfl .nil) (hsp H tb sq)) ?_
    rintro (er | fl) s2 ends
    · exact (ends : False).elim
    cases fl with
    | next => exact (ends : False).elim
    | brk => exact (ends : False).elim
    | cont => exact (ends : False).elim
    | ret u =>
      obtain ⟨v, H1, os, bare, un, ok1, ru, q⟩ := ends
      have q1 : v = .bl true := q
      subst q1
      obtain rfl : u = Value.bool true := ru
      have key : ∀ b o, b ≠ PT → s.heap.get? b = some o → s2.heap.get? b = some o := fun b o np g => by
        rcases on b np with h0 | ⟨ob, xs, h1⟩
        · exact un.keep b o g h0 (fun c => nomatch (show b ∈ ([] : List Addr) from c)) (fun c => nomatch c)
        · have g2 := (ok1 b _ (un.frzs b ob _ h1)).1
          have g1 := (ok b _ h1).1
          rw [g] at g1
          cases g1
          exact g2
      obtain ⟨more, hm⟩ := un.tbls PT #[] tb
      have hm2 : s2.heap.get? PT = some { cls := .none, data := .fields (#[] ++ more) } := ok1 PT _ hm
      refine ⟨rfl, ⟨fun b o g => ?_, fun b o g => ?_⟩, os, bare⟩
      · by_cases e : b = PT
        · rw [e] at g ⊢
          rw [hT] at g
          cases g
          exact .inr (.inl ⟨((PySem.W.codeHd_of_K kin hC).tab hT).isCodeTable, rfl, #[], more, rfl, hm2⟩)
        · exact .inl (key b o e g)
      · by_cases e : b = PT
        · rw [e]
          exact ⟨_, hm2⟩
        · exact ⟨o, key b o e g⟩
  by_cases no : K.lookup a = none
  · refine main (fun b => if b = a then some (.frz { cls := .type "list", data := .seq vs.toArray } (.lst (ns.map V.int))) else if b = PT then some (.tbl #[]) else none) ?_ ?_ ?_ (.inl (.inr ⟨{ cls := .type "list", data := .seq vs.toArray }, if_pos rfl⟩)) ?_
    · exact (if_neg (Ne.symm neq)).trans (if_pos rfl)
    · intro b np
      by_cases c : b = a
      · exact .inr ⟨_, _, if_pos c⟩
      · exact .inl ((if_neg c).trans (if_neg np))
    · intro b np q
      by_cases c : b = a
      · exact ⟨c, no⟩
      · exact absurd ((if_neg c).trans (if_neg np)) q
    · intro b u q
      by_cases c : b = a
      · have q1 := (if_pos c).symm.trans q
        cases q1
        subst c
        exact ⟨ha, by rw [List.length_map]; exact hl, vs, _, rv, ha⟩
      · have q1 := (if_neg c).symm.trans q
        by_cases e : b = PT
        · have q2 := (if_pos e).symm.trans q1
          cases q2
          subst e
          exact hT
        · have q2 := (if_neg e).symm.trans q1
          cases q2
  · obtain ⟨o, ho⟩ := Option.ne_none_iff_exists'.mp no
    have g := kin a o ho
    rw [ha] at g
    cases g
    refine main (fun b => if b = PT then some (.tbl #[]) else none) (if_pos rfl) (fun _ np => .inl (if_neg np)) (fun b np q => absurd (if_neg np) q) (.inr ⟨_, vs.toArray, _, ho, rfl, rfl, rfl, ?_, by simpa using rv⟩) (fun b u q => ?_)
    · rw [List.size_toArray, hi.length]
      exact hl
    · by_cases e : b = PT
      · have q2 := (if_pos e).symm.trans q
        cases q2
        subst e
        exact hT
      · have q2 := (if_neg e).symm.trans q
        cases q2
theorem walk_lawG {l : PySem.W.OpenLaw} {n k : Nat} {q : Program} {loose : List Str} {XP : (Str → Option Value) → Heap → Prop} {YP : World → Heap → Prop} {d : DefRec} {K : Params → PySem.W.Frag} {x : Str}
    (hn : l.most = some n) (hn2 : n ≤ sizeLine) (hdf : d.params.defaults = []) (z : L2.Room k callerA)
    (hY : ∀ (w : World) (h : Heap), YP w h → (K w.params).In h)
    (F : ∀ (w : World) (mg : Str → Option Value) (fa : Addr) (h : Heap), YP w h → (K w.params).In h → h.Ns mainGlobals mg → mg d.name = some (.ref fa) →
      ∃ (fd : FuncData) (c PT : Addr) (sp : Sp), h.get? PT = some { cls := .none, data := .fields #[] } ∧ (K w.params).lookup PT = none ∧ PySem.W.codeHdIn (K w.params) c PT = true ∧ (∀ (s : Shared) (u : Value), BindsTo s fd ⟨[u], []⟩ [(x, u)]) ∧
        (∀ (H : Hp) (a : Addr) (ns : List Int), ns.length ≤ n → H PT = some (.tbl #[]) → SqL (K w.params) H a (ns.map V.int) → sp [.ref a] H (fun v _ => v = .bl true) fun _ _ _ => False) ∧
        ∀ base : Heap, (K w.params).In base → base.Ns mainGlobals mg → LamX.TabB base mg c PT → FnOkG l.prog w (K w.params) mg base k fa fd [x] sp) :
    PySem.W.WalkO q loose XP YP l.row.toRowW d [] (fun f vs => PySem.call f vs) := by
  refine Att.attach_call hn hdf ?_
  intro w s0 s1 mg mb fa o pm cd doc a vs ns G Y _ _ _ hmg ho hi hl hg
  have kin := hY w _ Y
  obtain ⟨fd, c, PT, sp, hT, nT, hC, bd, hsp, ok⟩ := F w mg fa _ Y kin G.T.g hmg
  exact law_ranG kin G.T.g G.T.b G.T.builtins G.T.nolimit hg hT nT hC G.T.bmain ho hi (Nat.le_trans hl hn2) ⟨z, trivial⟩ ok bd fun H tb sq => hsp H a ns hl tb sq
end Lk
set_option maxRecDepth 100000
set_option maxHeartbeats 4000000
namespace Lk
open PySem PySem.Spec PyProof.Rows L2

/-! ### texts in order -/
/-! ### a dict that is walked where it is made -/
section
variable {X : Cx}
end

/-! ### friends, their pairs tuples or lists -/
def PairX (H : Hp) (bs : List B3) : Prop := (∀ b ∈ bs, H b.1 = some (.tup [.str b.2.1, .str b.2.2])) ∨ ∀ b ∈ bs, H b.1 = some (.lst [.str b.2.1, .str b.2.2])
theorem PairX.same {H H' : Hp} {bs : List B3} (s : Same H H') (h : PairX H bs) : PairX H' bs := h.elim (fun e => .inl fun b hb => s _ _ (e b hb)) (fun e => .inr fun b hb => s _ _ (e b hb))
/-- those whom a dict has beside one -/
def other1 (who : Str) (k : List Key) : Option Str := match k with
  | [Sum.inr a, Sum.inr b] => if a = who then some b else none
  | _ => none
def others (who : Str) (kvs : List (List Key × V)) : List Str := kvs.filterMap fun e => other1 who e.1
/-! ### promises -/
/-! ### names of one stem -/
def zz : Str := "zzzzzzzz"
end Lk
set_option maxRecDepth 100000
set_option maxHeartbeats 4000000
namespace Lk
open PySem PySem.Spec PyProof.Rows L2
/-! ### pairs of friends, each once -/
def OfN (pool : List Str) (ps : List (Str × Str)) (i j : Nat) : Prop := ps.Nodup ∧ ∀ p ∈ ps, ∃ a c m n, c < a ∧ (a < i ∨ a = i ∧ c < j) ∧ pool[a]? = some m ∧ pool[c]? = some n ∧ p = (lmin m n, lmax m n)
theorem OfN.nil {pool : List Str} {i j : Nat} : OfN pool [] i j := ⟨List.nodup_nil, fun _ h => nomatch h⟩
theorem OfN.step {pool : List Str} {ps : List (Str × Str)} {i j : Nat} (h : OfN pool ps i j) : OfN pool ps i (j + 1) := ⟨h.1, fun p hp => by
  obtain ⟨a, c, m, n, h1, h2, h3⟩ := h.2 p hp
  exact ⟨a, c, m, n, h1, by omega, h3⟩⟩
theorem OfN.next {pool : List Str} {ps : List (Str × Str)} {i : Nat} (h : OfN pool ps i i) : OfN pool ps (i + 1) 0 := ⟨h.1, fun p hp => by
  obtain ⟨a, c, m, n, h1, h2, h3⟩ := h.2 p hp
  exact ⟨a, c, m, n, h1, by omega, h3⟩⟩
theorem mm_cases (m n : Str) : (lmin m n = m ∧ lmax m n = n) ∨ (lmin m n = n ∧ lmax m n = m) := by
  unfold lmin lmax
  by_cases h : n.cps.toList < m.cps.toList
  · by_cases g : m.cps.toList < n.cps.toList
    · exact absurd (List.lt_trans h g) (List.lt_irrefl _)
    · have e : ¬ m.cps.toList < n.cps.toList := g
      rw [if_pos h]
      by_cases g2 : m.cps.toList < n.cps.toList
      · exact absurd g2 g
      · refine .inr ⟨rfl, ?_⟩
        rw [if_neg g2]
  · rw [if_neg h]
    by_cases g : m.cps.toList < n.cps.toList
    · exact .inl ⟨rfl, if_pos g⟩
    · have e : m = n := by
        have h1 : m.cps.toList ≤ n.cps.toList := List.not_lt.mp h
        have h2 : n.cps.toList ≤ m.cps.toList := List.not_lt.mp g
        exact str_ext (List.le_antisymm h1 h2)
      subst e
      exact .inl ⟨rfl, if_neg g⟩
theorem OfN.put {pool : List Str} {ps : List (Str × Str)} {i j : Nat} {m n : Str} (h : OfN pool ps i j) (nd : pool.Nodup) (hj : j < i) (hm : pool[i]? = some m) (hn : pool[j]? = some n) : OfN pool (ps ++ [(lmin m n, lmax m n)]) i (j + 1) := by
  refine ⟨List.nodup_append.mpr ⟨h.1, List.pairwise_singleton _ _, fun p hp q hq e => ?_⟩, fun p hp => ?_⟩
  · rw [List.mem_singleton.mp hq] at e
    obtain ⟨a, c, m', n', h1, h2, h3, h4, h5⟩ := h.2 p hp
    rw [e] at h5
    have e1 := congrArg Prod.fst h5
    have e2 := congrArg Prod.snd h5
    simp only at e1 e2
    have key : (m = m' ∧ n = n') ∨ (m = n' ∧ n = m') := by
      rcases mm_cases m n with ⟨k1, k2⟩ | ⟨k1, k2⟩ <;> rcases mm_cases m' n' with ⟨k3, k4⟩ | ⟨k3, k4⟩ <;> rw [k1, k3] at e1 <;> rw [k2, k4] at e2
      · exact .inl ⟨e1, e2⟩
      · exact .inr ⟨e1, e2⟩
      · exact .inr ⟨e2, e1⟩
      · exact .inl ⟨e2, e1⟩
    rcases key with ⟨rfl, rfl⟩ | ⟨rfl, rfl⟩
    · have := nd_ix nd hm h3
      have := nd_ix nd hn h4
      omega
    · have := nd_ix nd hm h4
      have := nd_ix nd hn h3
      omega
  · rcases List.mem_append.mp hp with z | z
    · exact h.step.2 p z
    · exact ⟨i, j, m, n, hj, by omega, hm, hn, List.mem_singleton.mp z⟩
theorem OfN.of {pool : List Str} {ps : List (Str × Str)} {i j : Nat} (h : OfN pool ps i j) (nd : pool.Nodup) : OfPool pool ps := fun p hp => by
  obtain ⟨a, c, m, n, h1, h2, h3, h4, h5⟩ := h.2 p hp
  refine ⟨m, n, List.mem_of_getElem? h3, List.mem_of_getElem? h4, fun z => ?_, h5⟩
  rw [← z] at h4
  have := nd_ix nd h3 h4
  omega
/-! ### words with a sign between, and back -/
/-! ### pairs of texts, one below the other -/
section
variable {X : Cx}
def pltB (p q : Str × Str) : Bool := PySem.W.dataLt (.tuple [.str p.1, .str p.2]) (.tuple [.str q.1, .str q.2])
end
/-! ### a def of one argument, by its name too -/
section
variable {X : Cx} {k n : Nat} {x q : Str} {sp : Sp} {p pos : Pos} {kws : List Keyword} {tk : TA}
end
section
variable {X : Cx}
end
/-! ### promises -/
/-- pairs as tuples that are known to be tuples -/
def PairsT (H : Hp) (qs : List B3) : Prop := ∀ q ∈ qs, TupAt H q.1 [.str q.2.1, .str q.2.2]
theorem PairsT.same {H H' : Hp} {qs : List B3} (s : Same H H') (h : PairsT H qs) : PairsT H' qs := fun q hq => (h q hq).same s
end Lk
set_option maxRecDepth 100000
set_option maxHeartbeats 4000000
namespace Lk
open PySem PySem.Spec PyProof.Rows L2
/-! ### sets whose members are tuples of anything that is carried by value (texts, numbers): below 64 members -/
section
variable {P : Program} {w : World} {A : Around} {E : Value → Shared → Prop} {s : Shared} {κ : Type} [DecidableEq κ] {knd : KeyKind P w κ}
/-- the members, with the places of their tuples -/
abbrev Mem (κ : Type) := List (Addr × List κ)
abbrev tHash (knd : KeyKind P w κ) (k : List κ) : Int := tupleKeyHash knd k
def hashesOf (knd : KeyKind P w κ) (L : Mem κ) : List Int := L.map fun z => tHash knd z.2
def entsOf (knd : KeyKind P w κ) (L : Mem κ) : List (Int × Value) := L.map fun z => (tHash knd z.2, Value.ref z.1)
/-- a set that lies at a -/
structure HSet (knd : KeyKind P w κ) (h : Heap) (a : Addr) (L : Mem κ) (es : Array (Int × Value)) (ep : Nat) (t : SetTable) : Prop where
  obj : ∃ o, h.get? a = some o ∧ o.ExactSet ∧ o.data = .set es ep t
  ent : es.toList = entsOf knd L
  tab : TabOk t (hashesOf knd L)
  once : (L.map (·.2)).Nodup
  lie : ∀ z ∈ L, IsTupleKey knd h z.2 z.1
  led : w.params.followText "set-order" = true ∨ t.led = true
  free : L.length * 5 < t.mask * 3
  small : L.length < 64
variable {a : Addr} {L : Mem κ} {es : Array (Int × Value)} {ep : Nat} {t : SetTable}
theorem ents_len (e : es.toList = entsOf knd L) : es.size = L.length := by
  rw [← Array.length_toList, e, entsOf, List.length_map]
theorem HSet.size (R : HSet knd s.heap a L es ep t) : es.size = L.length := ents_len R.ent
theorem HSet.places (R : HSet knd s.heap a L es ep t) : t.place.size = L.length := by
  rw [R.tab.sz, hashesOf, List.length_map]
theorem fits_of (e1 : t.place.size = es.size) (e2 : t.dummies = #[]) (le : es.size ≤ t.mask) : t.fits es.size = true := by
  unfold SetTable.fits SetTable.fill
  rw [e2, e1]
  show (es.size == es.size && decide (es.size + 0 ≤ t.mask)) = true
  rw [beq_self_eq_true, Bool.true_and, decide_eq_true (by omega)]
theorem HSet.fits (R : HSet knd s.heap a L es ep t) : t.fits es.size = true :=
  fits_of (R.places.trans R.size.symm) R.tab.dm (by have := R.size; have := R.free; omega)
theorem HSet.whole (R : HSet knd s.heap a L es ep t) : ¬ t.gaveWay = true := by
  unfold SetTable.gaveWay
  rw [mask_odd R.tab.mok]
  decide
/-! one more member -/
/-! set(xs) -/
/-- what a set has taken up of a list -/
def Fed (ks L : Mem κ) : Prop := (∀ z ∈ L, z ∈ ks) ∧ (∀ z ∈ ks, z.2 ∈ L.map (·.2)) ∧ L.length ≤ ks.length
theorem Fed.nil : Fed ([] : Mem κ) [] := ⟨fun _ m => m, fun _ m => absurd m List.not_mem_nil, Nat.le_refl _⟩
theorem Fed.step {ks L L' : Mem κ} {z : Addr × List κ} (f : Fed ks L) (c : z.2 ∈ L.map (·.2) ∧ L' = L ∨ L'.Perm (z :: L)) : Fed (ks ++ [z]) L' := by
  obtain ⟨f1, f2, f3⟩ := f
  rcases c with ⟨m, rfl⟩ | pm
  · refine ⟨fun y my => List.mem_append_left _ (f1 y my), fun y my => ?_, by rw [List.length_append]; omega⟩
    rcases List.mem_append.mp my with my | my
    · exact f2 y my
    · rw [List.mem_singleton.mp my]; exact m
  · refine ⟨fun y my => ?_, fun y my => ?_, by rw [List.length_append, pm.length_eq]; exact Nat.succ_le_succ f3⟩
    · rcases List.mem_cons.mp (pm.mem_iff.mp my) with e | my
      · exact List.mem_append_right _ (List.mem_singleton.mpr e)
      · exact List.mem_append_left _ (f1 y my)
    · rw [(pm.map (·.2)).mem_iff, List.map_cons]
      rcases List.mem_append.mp my with my | my
      · exact List.mem_cons_of_mem _ (f2 y my)
      · rw [List.mem_singleton.mp my]; exact List.mem_cons_self
theorem HSet.kept {h h' : Heap} (R : HSet knd h a L es ep t) (g : ∀ o, h.get? a = some o → h'.get? a = some o) (l : ∀ z ∈ L, IsTupleKey knd h' z.2 z.1) : HSet knd h' a L es ep t :=
  { R with obj := let ⟨o, e, r⟩ := R.obj; ⟨o, g o e, r⟩, lie := l }
theorem HSet.new {h : Heap} (g : h.get? a = some (setOb (!w.params.followText "set-order"))) : HSet knd h a [] #[] 0 (.fresh 0 0 (!w.params.followText "set-order")) where
  obj := ⟨_, g, ⟨rfl, rfl, rfl⟩, rfl⟩
  ent := rfl
  tab := { ris := List.Pairwise.nil, dm := rfl, sz := rfl, mok := .inl rfl, bd := fun _ m => (nomatch m), reach := fun i _ _ e => (by rw [show hashesOf knd ([] : Mem κ) = [] from rfl, List.getElem?_nil] at e; cases e) }
  once := .nil
  lie := fun _ m => nomatch m
  led := by
    cases e : w.params.followText "set-order"
    · exact .inr rfl
    · exact .inl rfl
  free := by show 0 * 5 < 7 * 3; decide
  small := by show 0 < 64; decide
/-! sorted(a set) -/
end
end Lk
set_option maxRecDepth 100000
set_option maxHeartbeats 4000000
namespace Lk
open PySem PySem.Spec PyProof.Rows L2
/-! ### sorted(set(xs)), xs a list of pairs of texts -/
section
variable {P : Program} {w : World} {A : Around} {E : Value → Shared → Prop} {s : Shared}
end
section
variable {X : Cx}
end
end Lk
set_option maxRecDepth 100000
set_option maxHeartbeats 4000000
namespace Lk
open PySem PySem.Spec PyProof.Rows L2
/-! ### enumerate over an iterator whose own step may make things (a zip) -/
section
variable {prog : Program} {w : World} {A : Around} {E : Value → Shared → Prop} {s : Shared}
/-! ### a zip's step, where its pair before is let go -/
/-! ### whichever way -/
/-- the state of a zip that another iterator asks: nothing handed out yet, or the pair T -/
def ZipSt (h : Heap) (z TI TO : Addr) : Prop := IsZip h z TI TO .none ∨ ∃ T f, IsZipHeld h z TI TO T f
theorem ZipSt.obj {h : Heap} {z TI TO : Addr} (x : ZipSt h z TI TO) : ∃ o vs, h.get? z = some o ∧ o.cls = .type "zip" ∧ o.data = .fields vs := by
  rcases x with e | ⟨T, f, e⟩
  · exact ⟨_, _, e, rfl, rfl⟩
  · exact ⟨_, _, e, rfl, rfl⟩
theorem ZipSt.at {h h' : Heap} {z TI TO : Addr} (x : ZipSt h z TI TO) (k : ∀ o, h.get? z = some o → h'.get? z = some o) : ZipSt h' z TI TO := x.imp (k _) fun ⟨T, f, e⟩ => ⟨T, f, k _ e⟩
open AutoSeq1 (wpAny_loadPart') in
end
end Lk
set_option maxRecDepth 100000
set_option maxHeartbeats 4000000
namespace Lk
open PySem PySem.Spec PyProof.Rows L2
end Lk
set_option maxRecDepth 100000
set_option maxHeartbeats 4000000
namespace Lk
open PySem PySem.Spec PyProof.Rows L2
/-! ### the first of the elders who is astray -/
theorem TupAt.but {K : PySem.W.Frag} {H : Hp} {e : Addr} {elders : List Str} (h : TupAt H e (elders.map V.str)) : ButKeeps K H e elders := fun H' s => .inr (h.same s).sq
end Lk
namespace Lk
open PySem PySem.Spec PyProof.Rows L2
end Lk
set_option maxRecDepth 100000
set_option maxHeartbeats 4000000
namespace Lk
open PySem PySem.Spec PyProof.Rows L2
/-! ### the set of a tuple of texts, some twice -/
section
variable {P : Program} {w : World} {A : Around} {E : Value → Shared → Prop} {s : Shared}
end
section
variable {X : Cx}
end
end Lk
set_option maxRecDepth 100000
set_option maxHeartbeats 4000000
namespace Lk
open PySem PySem.Spec PyProof.Rows L2
/-! ### texts that may be anything -/
def nb (x : Str) : Bool := decide (1 ≤ x.length) && decide (x.length ≤ 8) && x.cps.toList.all fun c => decide (97 ≤ c) && decide (c ≤ 122)
theorem nb_iff {x : Str} : nb x = true ↔ NameOk x := by
  unfold nb NameOk
  rw [len_tlx]
  simp only [Bool.and_eq_true, decide_eq_true_eq, List.all_eq_true]
  constructor
  · rintro ⟨⟨h1, h2⟩, h3⟩
    exact ⟨h1, h2, fun c hc => h3 c hc⟩
  · rintro ⟨h1, h2, h3⟩
    exact ⟨⟨h1, h2⟩, fun c hc => h3 c hc⟩
def wordsL (T : Str) : List Str := if T = "-" then [] else Txt.split T " "
/-- a row -/
def rowB (ws : List Str) : Bool := ws.all nb && decide ws.Nodup
/-- pairs -/
def fpB : List Str → Bool
  | [x, y] => nb x && nb y && decide (x.cps.toList < y.cps.toList)
  | _ => false
def splitW (x : Str) : List Str := Txt.split x "-"
def p2 (w : List Str) : Str × Str := (w.getD 0 "", w.getD 1 "")
def riseB : List (Str × Str) → Bool
  | [] => true
  | [_] => true
  | p :: q :: r => pltB p q && riseB (q :: r)
def pairsB (T : Str) : Bool := ((wordsL T).map splitW).all fpB
def psOf (T : Str) : List (Str × Str) := (wordsL T).map fun x => p2 (splitW x)
def frB (T : Str) : Bool := pairsB T && riseB (psOf T)
/-! ### promises -/
def spIsNm : Sp := fun vs H Q _ => ∃ x : Str, vs = [.str x] ∧ x.length ≤ 1000 ∧ ∀ H', Same H H' → Q (.bl (nb x)) H'
/-- tuples of texts -/
abbrev W3 := Addr × List Str
def WsT (H : Hp) (qs : List W3) : Prop := ∀ q ∈ qs, TupAt H q.1 (q.2.map V.str) ∧ q.2.length ≤ 900 ∧ ∀ x ∈ q.2, x.length ≤ 1000
theorem WsT.same {H H' : Hp} {qs : List W3} (s : Same H H') (h : WsT H qs) : WsT H' qs := fun q hq => ⟨(h q hq).1.same s, (h q hq).2⟩
def refsTx (qs : List W3) : List V := qs.map fun q => V.ref q.1
/-- what is told of a text: friends, or it is refused with it -/
def FriAt (H : Hp) (t : Addr) (T : Str) : Prop := ∃ qs : List W3, TupAt H t (refsTx qs) ∧ WsT H qs ∧ qs.map (·.2) = (wordsL T).map splitW
def lb (c : Nat) : Bool := decide (97 ≤ c) && decide (c ≤ 122)
theorem letter_lt {c : Nat} (h : c < 97) : (!decide (([c] : List Nat) < (("a" : Str)).cps.toList)) = false := by
  have e : (("a" : Str)).cps.toList = [97] := by decide +kernel
  rw [e, decide_eq_true (List.cons_lt_cons_iff.mpr (.inl h))]
  rfl
theorem letter_gt {c : Nat} (h : 122 < c) : (!decide ((("z" : Str)).cps.toList < ([c] : List Nat))) = false := by
  have e : (("z" : Str)).cps.toList = [122] := by decide +kernel
  rw [e, decide_eq_true (List.cons_lt_cons_iff.mpr (.inl h))]
  rfl
theorem nb_in {x : Str} (h1 : 1 ≤ x.length) (h2 : x.length ≤ 8) : nb x = (x.cps.toList.map lb).all id := by
  unfold nb
  rw [decide_eq_true h1, decide_eq_true h2, List.all_map]
  rfl
/-- what is told of each, gathered -/
theorem bools_map {α : Type} (f : α → Bool) (xs : List α) : (xs.map fun x => V.bl (f x)) = (xs.map f).map V.bl := by rw [List.map_map]; rfl
section
variable {X : Cx}
end
theorem FriAt.same {H H' : Hp} {t : Addr} {T : Str} (s : Same H H') (h : FriAt H t T) : FriAt H' t T := by
  obtain ⟨qs, h1, h2, h3⟩ := h
  exact ⟨qs, h1.same s, h2.same s, h3⟩
/-- what is due: friends, or the text in a list -/
def DueF (H : Hp) (v : V) (T : Str) : Prop := (frB T = true ∧ ∃ t, v = .ref t ∧ FriAt H t T) ∨ (frB T = false ∧ ∃ l, v = .ref l ∧ H l = some (.lst [.str T]))
def DueR (H : Hp) (v : V) (T : Str) : Prop := (rowB (wordsL T) = true ∧ ∃ t, v = .ref t ∧ TupAt H t ((wordsL T).map V.str)) ∨ (rowB (wordsL T) = false ∧ ∃ l, v = .ref l ∧ H l = some (.lst [.str T]))
theorem DueF.same {H H' : Hp} {v : V} {T : Str} (s : Same H H') (h : DueF H v T) : DueF H' v T :=
  h.imp (fun ⟨e, t, z, f⟩ => ⟨e, t, z, f.same s⟩) fun ⟨e, l, z, f⟩ => ⟨e, l, z, s _ _ f⟩
theorem DueR.same {H H' : Hp} {v : V} {T : Str} (s : Same H H') (h : DueR H v T) : DueR H' v T :=
  h.imp (fun ⟨e, t, z, f⟩ => ⟨e, t, z, f.same s⟩) fun ⟨e, l, z, f⟩ => ⟨e, l, z, s _ _ f⟩
section
variable {J : It} {n : Nat} {G : Hp → Prop} {Y : Nat → Hp → V → Hp → Prop} {g : TG} {te : TE} {vs : List Nat} {σ : L2.St} {H1 : Hp} {D : Addr} {Qd : Hp → Prop}
end
/-- due, or none -/
def NotF (H : Hp) (v : V) (T : Str) : Prop := (frB T = true ∧ ∃ t, v = .ref t ∧ FriAt H t T) ∨ (frB T = false ∧ v = .non)
def NotR (H : Hp) (v : V) (T : Str) : Prop := (rowB (wordsL T) = true ∧ ∃ t, v = .ref t ∧ TupAt H t ((wordsL T).map V.str)) ∨ (rowB (wordsL T) = false ∧ v = .non)
theorem NotF.same {H H' : Hp} {v : V} {T : Str} (s : Same H H') (h : NotF H v T) : NotF H' v T := h.imp (fun ⟨e, t, z, f⟩ => ⟨e, t, z, f.same s⟩) id
theorem NotR.same {H H' : Hp} {v : V} {T : Str} (s : Same H H') (h : NotR H v T) : NotR H' v T := h.imp (fun ⟨e, t, z, f⟩ => ⟨e, t, z, f.same s⟩) id
/-- the two that are due; the list that gathers them is another -/
def CDue (D : Addr) (T : Str) (i : Nat) (y : V) (H : Hp) : Prop := (∀ l, y = .ref l → l ≠ D) ∧ (i = 0 → DueF H y T) ∧ (i = 1 → DueR H y T)
theorem CDue.same {D : Addr} {T : Str} {i : Nat} {y : V} {H H' : Hp} (s : Same H H') (h : CDue D T i y H) : CDue D T i y H' := ⟨h.1, fun e => (h.2.1 e).same s, fun e => (h.2.2 e).same s⟩
theorem CDue.upd_ {D : Addr} {T : Str} {i : Nat} {y : V} {H : Hp} {ys : List V} {u : HO} (hD : H D = some (.lst ys)) (h : CDue D T i y H) : CDue D T i y (upd H D u) := by
  refine ⟨h.1, fun e => ?_, fun e => ?_⟩
  · rcases h.2.1 e with ⟨z, t, e2, qs, f1, f2, f3⟩ | ⟨z, l, e2, f⟩
    · exact .inl ⟨z, t, e2, qs, f1.upd_ hD, fun q hq => ⟨(f2 q hq).1.upd_ hD, (f2 q hq).2⟩, f3⟩
    · exact .inr ⟨z, l, e2, (upd_ne (h.1 l e2)).trans f⟩
  · rcases h.2.2 e with ⟨z, t, e2, f⟩ | ⟨z, l, e2, f⟩
    · exact .inl ⟨z, t, e2, f.upd_ hD⟩
    · exact .inr ⟨z, l, e2, (upd_ne (h.1 l e2)).trans f⟩
def some0 : List Str := (["", " ", "-", "--", "- -", "a", "a ", " a", "a  b", "abcdefghi", "abcdefgh", "Ab", "a1", "a a", "a-b"] : List Str) ++ (["b-a", "a-a", "a-b a-b", "a-c a-b", "a-b-c", "a-", "-b", "a-b ", "a-b  a-c", "a-b a-c"] : List Str) ++ (["a b c", "a-b c"] : List Str)
theorem Cal.wk {P : Program} {w : World} {K : PySem.W.Frag} {mg : Str → Option Value} {base : Heap} {k : Nat} {x : Str} {ps : List Str} {sp sq : Sp} (C : Cal P w K mg base k x ps sp) (h : ∀ vs H Q E, sq vs H Q E → sp vs H Q E) : Cal P w K mg base k x ps sq := by
  obtain ⟨f, fd, F, r⟩ := C
  exact ⟨f, fd, F.imp h, r⟩
end Lk
set_option maxRecDepth 100000
set_option maxHeartbeats 4000000
namespace Lk
open PySem PySem.Spec PyProof.Rows L2 LamX
/-! ### deeds, as texts -/
def deedS : List Str → Option Deed
  | [s] => if s = "serve" then some none else none
  | [c, x] => if c = "come" ∧ nb x = true then some (some x) else none
  | _ => none
theorem deedS_some {w : List Str} {dd : Deed} (h : deedS w = some dd) : w = deedL dd ∧ ∀ x, dd = some x → NameOk x := by
  match w, h with
  | [s], h =>
    have h' : (if s = "serve" then some none else none) = some dd := h
    by_cases c : s = "serve"
    · rw [if_pos c] at h'
      cases h'
      exact ⟨by rw [c]; rfl, nofun⟩
    · rw [if_neg c] at h'
      cases h'
  | [c, x], h =>
    have h' : (if c = "come" ∧ nb x = true then some (some x) else none) = some dd := h
    by_cases z : c = "come" ∧ nb x = true
    · rw [if_pos z] at h'
      cases h'
      exact ⟨by rw [z.1]; rfl, fun y e => by cases e; exact nb_iff.mp z.2⟩
    · rw [if_neg z] at h'
      cases h'
def canS : Deed → List Str → List Str → Bool
  | none, row, _ => decide (row ≠ [])
  | some x, _, met => !decide (x ∈ met)
/-- the number of the first that can't be done, or who stands and who has gone -/
def doneS (ps : List (Str × Str)) : List (List Str) → List Str × List Str → List Str → Nat → Nat ⊕ (List Str × List Str)
  | [], s, _, _ => .inr s
  | w :: ws, s, met, i => match deedS w with
    | none => .inl i
    | some dd => if canS dd s.1 met = true then (match dd with
      | none => doneS ps ws (s.1.drop 1, s.2 ++ s.1.take 1) met (i + 1)
      | some x => doneS ps ws (comeTo ps s.1 x, s.2) (met ++ [x]) (i + 1)) else .inl i
theorem doneS_cons {ps : List (Str × Str)} {w : List Str} {ws : List (List Str)} {s : List Str × List Str} {met : List Str} {i : Nat} : doneS ps (w :: ws) s met i = match deedS w with
    | none => .inl i
    | some dd => if canS dd s.1 met = true then (match dd with
      | none => doneS ps ws (s.1.drop 1, s.2 ++ s.1.take 1) met (i + 1)
      | some x => doneS ps ws (comeTo ps s.1 x, s.2) (met ++ [x]) (i + 1)) else .inl i := rfl
theorem doneS_bad {ps : List (Str × Str)} {w : List Str} {ws : List (List Str)} {s : List Str × List Str} {met : List Str} {i : Nat} (h : deedS w = none) : doneS ps (w :: ws) s met i = .inl i := by
  rw [doneS_cons, h]
theorem doneS_no {ps : List (Str × Str)} {w : List Str} {dd : Deed} {ws : List (List Str)} {s : List Str × List Str} {met : List Str} {i : Nat} (h : deedS w = some dd) (c : canS dd s.1 met = false) : doneS ps (w :: ws) s met i = .inl i := by
  rw [doneS_cons, h]
  show (if canS dd s.1 met = true then _ else _) = _
  rw [c]
  rfl
theorem doneS_serve {ps : List (Str × Str)} {w : List Str} {ws : List (List Str)} {s : List Str × List Str} {met : List Str} {i : Nat} (h : deedS w = some none) (c : canS none s.1 met = true) : doneS ps (w :: ws) s met i = doneS ps ws (s.1.drop 1, s.2 ++ s.1.take 1) met (i + 1) := by
  rw [doneS_cons, h]
  show (if canS none s.1 met = true then _ else _) = _
  rw [if_pos c]
theorem doneS_come {ps : List (Str × Str)} {w : List Str} {x : Str} {ws : List (List Str)} {s : List Str × List Str} {met : List Str} {i : Nat} (h : deedS w = some (some x)) (c : canS (some x) s.1 met = true) : doneS ps (w :: ws) s met i = doneS ps ws (comeTo ps s.1 x, s.2) (met ++ [x]) (i + 1) := by
  rw [doneS_cons, h]
  show (if canS (some x) s.1 met = true then _ else _) = _
  rw [if_pos c]
/-! ### lists of them -/
abbrev LR5 := List (Addr × List Str)
def refsR5 (ls : LR5) : List V := ls.map fun q => V.ref q.1
def RowsAt5 (H : Hp) (ls : LR5) : Prop := ∀ q ∈ ls, RowAt H q.1 q.2
theorem row_same {H H' : Hp} {a : Addr} {row : List Str} (s : Same H H') (h : RowAt H a row) : RowAt H' a row := h.elim (fun e => .inl (e.same s)) fun e => .inr (s _ _ e)
theorem RowsAt5.same {H H' : Hp} {ls : LR5} (s : Same H H') (h : RowsAt5 H ls) : RowsAt5 H' ls := fun q hq => row_same s (h q hq)
theorem refs5_len (ls : LR5) : (refsR5 ls).length = ls.length := by unfold refsR5; rw [List.length_map]
theorem refs5_at {ls : LR5} {i : Nat} {q : Addr × List Str} (h : ls[i]? = some q) : (refsR5 ls)[i]? = some (.ref q.1) := by
  unfold refsR5
  rw [List.getElem?_map, h]
  rfl
/-- what is a list or a tuple of anything -/
def SeqAt5 (H : Hp) (a : Addr) (xs : List V) : Prop := TupAt H a xs ∨ H a = some (.lst xs)
theorem SeqAt5.same {H H' : Hp} {a : Addr} {xs : List V} (s : Same H H') (h : SeqAt5 H a xs) : SeqAt5 H' a xs := h.elim (fun e => .inl (e.same s)) fun e => .inr (s _ _ e)
theorem SeqAt5.kept {H H' : Hp} {a : Addr} {xs : List V} (h : SeqAt5 H a xs) (s : Same H H') : H' a = H a := h.elim (fun ⟨_, _, e⟩ => same_eq s e) fun e => same_eq s e
theorem row_isi {K : PySem.W.Frag} {H : Hp} {a : Addr} {row : List Str} (h : RowAt H a row) : ∃ t, TyX K H (.ref a) t ∧ PySem.W.kitAny K t [.type "list", .type "tuple"] = some true := by
  rcases h with e | e
  · exact ⟨.type "tuple", TupX.ty (.inr e), kitAny_cons (b := false) (kit_ty (by decide +kernel)) (fun _ => kitAny_cons (b := true) (kit_ty (by decide +kernel)) (fun z => nomatch z) (fun _ => rfl)) (fun z => nomatch z)⟩
  · exact ⟨.type "list", .base (.lst e), kitAny_cons (b := true) (kit_ty (by decide +kernel)) (fun z => nomatch z) (fun _ => rfl)⟩
section
variable {X : Cx}
def iSeqE (i : Nat) : TI := fun σ H R => ∃ a xs, σ[i]? = some (some (.ref a)) ∧ SeqAt5 H a xs ∧ ∀ (J : It) (G : Hp → Prop), Walk J xs.length G (YPair (fun k => some (.int (k : Nat))) (fun k => xs[k]?)) → (∀ H', H' a = H a → G H') → R J H
theorem pi_seqE {elts : List Expr} {kk : Nat} {p pos tpos : Pos} {e : Expr} {i : Nat} (hg : Gl X "enumerate") (hm : X.mg "enumerate" = none) (he : PE X e (tVar i)) (hs : starEach [e] X.env = [(false, eval e X.env)] := by rfl) :
    PI X (.Tuple elts kk tpos) (.Call (.Name "enumerate" p) [e] [] pos) (iSeqE i) := by
  constructor
  intro pins s σ H R I h
  obtain ⟨a, xs, hi, hrow, q⟩ := h
  rcases hrow with t | t
  · refine (pi_enumT (pos := pos) (tpos := tpos) (elts := elts) (kk := kk) hg hm (pa_cons he pa_nil hs) hs).run pins s σ H R I ⟨.ref a, hi, a, _, rfl, t.sq, q _ _ walk_enumT ?_⟩
    intro H' eq
    obtain ⟨o, h1, h2⟩ := t
    exact TupAt.sq (show TupAt H' a xs from ⟨o, h1, eq.trans h2⟩)
  · exact (pi_enum (pos := pos) (tpos := tpos) (elts := elts) (kk := kk) hg hm (pa_cons he pa_nil hs) hs).run pins s σ H R I ⟨.ref a, hi, a, _, rfl, .inl (.inl t), q _ _ walk_enum fun H' eq => .inl (.inl (eq.trans t))⟩
end
/-! ### promises -/
def spRds5 : Sp := fun vs H Q _ => ∃ (a : Addr) (w : List Str), vs = [.ref a] ∧ RowAt H a w ∧ (∀ x ∈ w, x.length ≤ 1000) ∧ ∀ H', Same H H' → Q (.bl (deedS w).isSome) H'
def spCan5 : Sp := fun vs H Q _ => ∃ (T h d : Addr) (dd : Deed) (row met : List Str), vs = [.ref T, .ref h, .ref d] ∧ RowAt H T (deedL dd) ∧ TupAt H h (row.map V.str) ∧ BeenAt H d met ∧ ∀ H', Same H H' → Q (.bl (canS dd row met)) H'
def spDone5 (C : Addr) : Sp := fun vs H Q E => ∃ (a p e : Addr) (ps : List (Str × Str)) (olds : List Str) (ls : LR5), vs = [.ref a, .ref p, .ref e] ∧ FrAt H a ps ∧ ps.length ≤ 1000 ∧ SeqAt5 H p (refsR5 ls) ∧ RowsAt5 H ls ∧ (∀ q ∈ ls, ∀ x ∈ q.2, x.length ≤ 1000) ∧ RowAt H e olds ∧ olds.length + ls.length ≤ 90 ∧
  (∀ st gn, doneS ps (ls.map (·.2)) (olds, []) olds 0 = .inr (st, gn) → ∀ T g' t' H', Same H H' → TupAt H' T [.ref g', .ref t'] → TupAt H' g' (gn.map V.str) → TupAt H' t' (st.map V.str) → Q (.ref T) H') ∧
  (∀ i : Nat, doneS ps (ls.map (·.2)) (olds, []) olds 0 = .inl i → ∀ d H', Same H H' → H d = none → H' d = some (.xd [("number", .int (i : Nat))]) → E (.ref C) (some d) H')
/-- the empty tuple that a def has by default -/
def Bare5 (K : PySem.W.Frag) (e : Addr) : Prop := ∃ (o : Obj) (n : Nat), K.lookup e = some o ∧ o.cls = .type "tuple" ∧ o.data = .seq #[] n
theorem Bare5.sq {K : PySem.W.Frag} {e : Addr} (h : Bare5 K e) (H : Hp) : SqT K H e [] := by
  obtain ⟨o, n, h1, h2, h3⟩ := h
  exact .inr ⟨o, #[], n, h1, h2, h3, Nat.zero_le _, .nil⟩
theorem Bare5.ty {K : PySem.W.Frag} {e : Addr} (h : Bare5 K e) (H : Hp) : TyX K H (.ref e) (.type "tuple") := by
  obtain ⟨o, n, h1, h2, h3⟩ := h
  exact .kTuple h1 h2
/-- of no deeds, the row by its default -/
def spDone0 (K : PySem.W.Frag) : Sp := fun vs H Q _ => ∃ (a p e : Addr), vs = [.ref a, .ref p, .ref e] ∧ H p = some (.lst []) ∧ Bare5 K e ∧ ∀ T g H', Same H H' → TupAt H' T [.ref g, .ref e] → TupAt H' g [] → Q (.ref T) H'
/-! ### by names alone, of a def that may raise -/
def gP5 {α : Type} (is : List Nat) (ws : List α) : List α := is.filterMap fun i => ws[i]?
theorem vals_at5 : ∀ {zs : List V} {ws : List Value}, Vals zs ws → ∀ i : Nat, (zs[i]? = none ∧ ws[i]? = none) ∨ ∃ z u, zs[i]? = some z ∧ ws[i]? = some u ∧ RelV z u
  | _, _, .nil, i => .inl ⟨rfl, rfl⟩
  | _, _, .cons r t, 0 => .inr ⟨_, _, rfl, rfl, r⟩
  | _, _, .cons r t, i + 1 => vals_at5 t i
theorem gP5_vals {zs : List V} {ws : List Value} (r : Vals zs ws) : ∀ is : List Nat, Vals (gP5 is zs) (gP5 is ws)
  | [] => .nil
  | i :: is => by
    have t := gP5_vals r is
    rcases vals_at5 r i with ⟨h1, h2⟩ | ⟨z, u, h1, h2, h3⟩
    · have e1 : gP5 (i :: is) zs = gP5 is zs := by simp [gP5, h1]
      have e2 : gP5 (i :: is) ws = gP5 is ws := by simp [gP5, h2]
      rw [e1, e2]
      exact t
    · have e1 : gP5 (i :: is) zs = z :: gP5 is zs := by simp [gP5, h1]
      have e2 : gP5 (i :: is) ws = u :: gP5 is ws := by simp [gP5, h2]
      rw [e1, e2]
      exact .cons h3 t
structure CalNX (P : Program) (w : World) (K : PySem.W.Frag) (mg : Str → Option Value) (base : Heap) (k : Nat) (x : Str) (ps ks : List Str) (is : List Nat) (sp : Sp) : Prop where
  ex : ∃ f fd, FnOk P w K mg base (L2.CX P w) k f fd ps sp ∧ mg x = some (.ref f) ∧ PySem.W.keepIn K (.ref f) = true ∧ KBn K fd ps 0 ks (fun _ ws => gP5 is ws) (fun _ zs => gP5 is zs)
section
variable {X : Cx} {k m : Nat} {x : Str} {ps ks : List Str} {is : List Nat} {sp : Sp} {p pos : Pos} {kws : List Keyword} {tk : TA} {W : WX}
theorem pe_calnX (C : CalNX X.prog X.w X.K X.mg X.base k x ps ks is sp) (hr : Room m X.A) (tw : Takes X W) (hkw : PK X kws tk) (hle : k ≤ m := by first | decide | omega) (hg : Gl X x := by rfl)
    (hall : (backToKw pos (keywordEach kws X.env)).all (·.1.isSome) = true := by rfl) (hks : (backToKw pos (keywordEach kws X.env)).filterMap (·.1) = ks := by rfl)
    (hdb : (x == ("__debug__" : Str)) = false := by decide)
    (hpl : ((backTo pos (starEach [] X.env)).any (·.1) || (backToKw pos (keywordEach kws X.env)).any (·.1.isNone)) = false := by rfl) :
    PE X (.Call (.Name x p) [] kws pos) (tCallNX 0 ks.length sp (fun _ zs => gP5 is zs) (L2.WE W) tNil tk) := by
  obtain ⟨f, fd, F, hm, hk, hb⟩ := C.ex
  refine ⟨fun pins s σ H Q I h => ?_⟩
  refine wpAny_Call_Name_kw (ld_glob I hg hm (PySem.W.callWith_KW0 (h₀ := X.base) I.ok.mod.kin hk hall ?_ hpl) hdb)
  refine thn (hkw.run pos pins s σ H _ I h) fun ws s2 ⟨zs, H2, I2, rz, l1, l2, q2⟩ => ⟨I2.kIn, ?_⟩
  rw [hks]
  exact fn_ranX (ar := ⟨[], ks.zip ws⟩) F (hr.mono hle) (passAt tw σ) I2 (hb.to s2 [] ws I2.kIn rfl (rz.length.symm.trans l2)) (hb.rel (vs := []) (us := []) .nil rz) q2
end
theorem calnX_mk {P : Program} {w : World} {K : PySem.W.Frag} {mg : Str → Option Value} {base : Heap} {k : Nat} {x : Str} {ps : List Str} {st : Stmt} {sp : Sp} {f D : Addr} {oc : Value} {od an : Option Addr} {osl : Array (Option Value)} {doc pm cdv ct : Value}
    (l : K.lookup f = some ⟨oc, od, .func (PySem.W.fnOf x x (defArgs st) (defBody st) (defScope st) .none (.ref D) doc pm an cdv ct), osl⟩) (kp : PySem.W.keepIn K (.ref f) = true) (hm : mg x = some (.ref f))
    (ok : FnOk P w K mg base (L2.CX P w) k f (PySem.W.fnOf x x (defArgs st) (defBody st) (defScope st) .none (.ref D) doc pm an cdv ct) ps sp) (ks : List Str) (is : List Nat)
    (hb : ∀ (kV doc pm : Value) (an : Option Addr) (cdv ct : Value) (ws : List Value), ws.length = ks.length → bindArgs (PySem.W.fnOf x x (defArgs st) (defBody st) (defScope st) .none kV doc pm an cdv ct) ⟨[], ks.zip ws⟩ = pure (ps.zip (gP5 is ws))) :
    CalNX P w K mg base k x ps ks is sp := by
  refine ⟨⟨f, _, ok, hm, kp, ⟨fun s us ws _ h1 h2 => ?_, fun _ r => gP5_vals r is⟩⟩⟩
  rw [List.length_eq_zero_iff.mp h1]
  exact .of_eq (hb _ _ _ _ _ _ ws h2)
/-! ### alike, kind by kind; tuples that the program laid at its beginning too -/
structure TupY (K : PySem.W.Frag) (H : Hp) (a : Addr) (xs : List V) : Prop where
  st : ∀ H', Same H H' → SqT K H' a xs ∧ TyX K H' (.ref a) (.type "tuple")
theorem TupY.same {K : PySem.W.Frag} {H H' : Hp} {a : Addr} {xs : List V} (s : Same H H') (h : TupY K H a xs) : TupY K H' a xs := ⟨fun H2 s2 => h.st H2 (s.trans s2)⟩
theorem TupY.sq {K : PySem.W.Frag} {H : Hp} {a : Addr} {xs : List V} (h : TupY K H a xs) : SqT K H a xs := (h.st H (Same.refl H)).1
theorem TupY.ty {K : PySem.W.Frag} {H : Hp} {a : Addr} {xs : List V} (h : TupY K H a xs) : TyX K H (.ref a) (.type "tuple") := (h.st H (Same.refl H)).2
theorem TupY.of {K : PySem.W.Frag} {H : Hp} {a : Addr} {xs : List V} (h : TupX H a xs) : TupY K H a xs := ⟨fun H' s => ⟨(h.same s).sq, (h.same s).ty⟩⟩
def Alk5 (K : PySem.W.Frag) (H : Hp) : Nat → V → V → Prop
  | 0, _, _ => False
  | n + 1, x, y => ((x = .non ∨ (∃ b, x = .bl b) ∨ (∃ i, x = .int i) ∨ ∃ z, x = .str z) ∧ y = x) ∨
    (∃ a b xs ys, x = .ref a ∧ y = .ref b ∧ H a = some (.lst xs) ∧ H b = some (.lst ys) ∧ xs.length = ys.length ∧ xs.length ≤ 1000 ∧ ∀ (i : Nat) (u v : V), xs[i]? = some u → ys[i]? = some v → Alk5 K H n u v) ∨
    (∃ a b xs ys, x = .ref a ∧ y = .ref b ∧ TupY K H a xs ∧ TupY K H b ys ∧ xs.length = ys.length ∧ xs.length ≤ 1000 ∧ ∀ (i : Nat) (u v : V), xs[i]? = some u → ys[i]? = some v → Alk5 K H n u v)
theorem Alk5.same {K : PySem.W.Frag} {H H' : Hp} (s : Same H H') : ∀ {n : Nat} {x y : V}, Alk5 K H n x y → Alk5 K H' n x y
  | 0, _, _, h => h.elim
  | n + 1, x, y, h => by
    rcases h with h | ⟨a, b, xs, ys, e1, e2, h1, h2, hl, hz, h⟩ | ⟨a, b, xs, ys, e1, e2, h1, h2, hl, hz, h⟩
    · exact .inl h
    · exact .inr (.inl ⟨a, b, xs, ys, e1, e2, s _ _ h1, s _ _ h2, hl, hz, fun i u v hu hv => Alk5.same s (h i u v hu hv)⟩)
    · exact .inr (.inr ⟨a, b, xs, ys, e1, e2, h1.same s, h2.same s, hl, hz, fun i u v hu hv => Alk5.same s (h i u v hu hv)⟩)
theorem TupY.bare {K : PySem.W.Frag} {H : Hp} {a : Addr} (h : Bare5 K a) : TupY K H a [] := ⟨fun H' _ => ⟨h.sq H', h.ty H'⟩⟩
theorem alk5_int {K : PySem.W.Frag} {H : Hp} {n : Nat} (i : Int) : Alk5 K H (n + 1) (.int i) (.int i) := .inl ⟨.inr (.inr (.inl ⟨i, rfl⟩)), rfl⟩
theorem alk5_strsT {K : PySem.W.Frag} {H : Hp} {n : Nat} {a b : Addr} {xs : List Str} (h1 : TupY K H a (xs.map V.str)) (h2 : TupY K H b (xs.map V.str)) (hz : xs.length ≤ 1000) : Alk5 K H (n + 2) (.ref a) (.ref b) :=
  .inr (.inr ⟨a, b, _, _, rfl, rfl, h1, h2, rfl, by rw [List.length_map]; exact hz, fun i u v hu hv => by
    rw [hu] at hv
    cases hv
    obtain ⟨z, _, rfl⟩ := at_map hu
    exact .inl ⟨.inr (.inr (.inr ⟨z, rfl⟩)), rfl⟩⟩)
theorem alk5_list2 {K : PySem.W.Frag} {H : Hp} {n : Nat} {a b : Addr} {x1 x2 y1 y2 : V} (h1 : H a = some (.lst [x1, x2])) (h2 : H b = some (.lst [y1, y2])) (k1 : Alk5 K H n x1 y1) (k2 : Alk5 K H n x2 y2) : Alk5 K H (n + 1) (.ref a) (.ref b) :=
  .inr (.inl ⟨a, b, _, _, rfl, rfl, h1, h2, rfl, by show 2 ≤ 1000; decide, fun i u v hu hv => by
    match i, hu, hv with
    | 0, hu, hv => cases hu; cases hv; exact k1
    | 1, hu, hv => cases hu; cases hv; exact k2⟩)
theorem alk5_tup2 {K : PySem.W.Frag} {H : Hp} {n : Nat} {a b : Addr} {x1 x2 y1 y2 : V} (h1 : TupX H a [x1, x2]) (h2 : TupX H b [y1, y2]) (k1 : Alk5 K H n x1 y1) (k2 : Alk5 K H n x2 y2) : Alk5 K H (n + 1) (.ref a) (.ref b) :=
  .inr (.inr ⟨a, b, _, _, rfl, rfl, .of h1, .of h2, rfl, by show 2 ≤ 1000; decide, fun i u v hu hv => by
    match i, hu, hv with
    | 0, hu, hv => cases hu; cases hv; exact k1
    | 1, hu, hv => cases hu; cases hv; exact k2⟩)
def spSame5 (K : PySem.W.Frag) (n : Nat) : Sp := fun vs H Q _ => ∃ x y, vs = [x, y] ∧ Alk5 K H n x y ∧ ∀ H', Same H H' → Q (.bl true) H'
/-! ### the law's own -/
/-- what is drawn as a deed: its texts -/
def Txts5 (ls : LR5) : Prop := ∀ q ∈ ls, q.2.length ≤ 2 ∧ ∀ x ∈ q.2, NameOk x ∨ x = "A"
def spDue5 : Sp := fun vs H Q _ => ∃ (a t p : Addr) (ps : List (Str × Str)) (olds : List Str) (ls : LR5), vs = [.ref a, .ref t, .ref p] ∧ PalsAt H a ps ∧ PalsOk ps ∧ TupAt H t (olds.map V.str) ∧ Goods olds ∧ H p = some (.lst (refsR5 ls)) ∧ (∀ q ∈ ls, TupAt H q.1 (q.2.map V.str)) ∧ Txts5 ls ∧ olds.length + ls.length ≤ 90 ∧
  (∀ st gn, doneS ps (ls.map (·.2)) (olds, []) olds 0 = .inr (st, gn) → ∀ T g' t' H', Same H H' → TupAt H' T [.ref g', .ref t'] → TupAt H' g' (gn.map V.str) → TupAt H' t' (st.map V.str) → st.length ≤ 90 → gn.length ≤ 90 → Q (.ref T) H') ∧
  (∀ i : Nat, doneS ps (ls.map (·.2)) (olds, []) olds 0 = .inl i → ∀ H', Same H H' → Q (.int (i : Nat)) H')
theorem good_A : Good "A" := by show PyData.strOk _ = true; decide +kernel
theorem low26 : ∀ i : Fin 26, Unicode.isLower (97 + i.val) = true ∧ (Unicode.isUpper (97 + i.val) || Unicode.isTitle (97 + i.val)) = false := by decide +kernel
theorem low_letter {c : Nat} (h1 : 97 ≤ c) (h2 : c ≤ 122) : Unicode.isLower c = true ∧ (Unicode.isUpper c || Unicode.isTitle c) = false := by
  have h := low26 ⟨c - 97, by omega⟩
  have e : 97 + (c - 97) = c := by omega
  simpa only [e] using h
theorem lower_nb {x : Str} (h : NameOk x ∨ x = "A") : Txt.islower x = nb x := by
  rcases h with h | h
  · rw [nb_iff.mpr h]
    obtain ⟨l1, l2, l3⟩ := h
    unfold Txt.islower
    rw [← Array.any_toList, ← Array.any_toList]
    have a1 : (tlx x).any Unicode.isLower = true := by
      cases e : tlx x with
      | nil =>
        rw [e] at l1
        cases l1
      | cons c r =>
        have hc := l3 c (by rw [e]; exact List.mem_cons_self)
        rw [List.any_cons, (low_letter hc.1 hc.2).1]
        rfl
    have a2 : ((tlx x).any fun c => Unicode.isUpper c || Unicode.isTitle c) = false := by
      rw [List.any_eq_false]
      intro c hc
      rw [(low_letter (l3 c hc).1 (l3 c hc).2).2]
      exact fun z => nomatch z
    show ((tlx x).any Unicode.isLower && !(tlx x).any fun c => Unicode.isUpper c || Unicode.isTitle c) = true
    rw [a1, a2]
    rfl
  · rw [h]
    decide +kernel
theorem TupAt.updL {H : Hp} {l t : Addr} {xs ys : List V} {o' : HO} (h : TupAt H t xs) (hl : H l = some (.lst ys)) : TupAt (upd H l o') t xs := by
  obtain ⟨o, h1, h2⟩ := h
  exact ⟨o, h1, (upd_ne (fun z => by rw [z, hl] at h2; cases h2)).trans h2⟩
/-- what is told of what a lambda gave, or refused with: its number -/
def TTask (C : Addr) : (XK → Hp → VK → Prop) → Hp → VK → Prop := fun tl H Q =>
  ∀ (H1 : Hp) (N : VK), Same H H1 → (∀ v H', Q v H' → N v H') → tl (fun cls d H' => cls = .ref C ∧ ∃ x i, d = some x ∧ H' x = some (.xd [("number", .int i)]) ∧ ∀ H'', Same H' H'' → Q (.int i) H'') H1 N
/-! ### what is told of deeds, as a value -/
def KT (H H' : Hp) : Prop := ∀ t xs, TupAt H t xs → TupAt H' t xs
theorem KT.trans {H H1 H2 : Hp} (x : KT H H1) (y : KT H1 H2) : KT H H2 := fun t xs h => y t xs (x t xs h)
theorem KT.same {H H' : Hp} (s : Same H H') : KT H H' := fun _ _ h => h.same s
theorem KT.oth {b : Addr} {H H' : Hp} (s : Oth b H H') (hb : IsBox H b) : KT H H' := fun _ _ h => h.oth s hb
theorem KT.lst {H : Hp} {l : Addr} {ys : List V} {o' : HO} (hl : H l = some (.lst ys)) : KT H (upd H l o') := fun _ _ h => h.updL hl
theorem KT.ext {H H' : Hp} (s : ExtN H H') : KT H H' := fun _ _ ⟨o, h1, h2⟩ => ⟨o, h1, s _ _ h2 frz_tbl⟩
def DueIs (H : Hp) (R : Nat ⊕ (List Str × List Str)) (v : V) : Prop := (∃ i : Nat, R = .inl i ∧ v = .int (i : Nat)) ∨ ∃ st gn T g t, R = .inr (st, gn) ∧ v = .ref T ∧ TupAt H T [.ref g, .ref t] ∧ TupAt H g (gn.map V.str) ∧ TupAt H t (st.map V.str)
theorem DueIs.kt {H H' : Hp} {R : Nat ⊕ (List Str × List Str)} {v : V} (k : KT H H') (h : DueIs H R v) : DueIs H' R v := by
  rcases h with h | ⟨st, gn, T, g, t, e1, e2, h1, h2, h3⟩
  · exact .inl h
  · exact .inr ⟨st, gn, T, g, t, e1, e2, k _ _ h1, k _ _ h2, k _ _ h3⟩
theorem doneS_len {ps : List (Str × Str)} : ∀ {ws : List (List Str)} {s : List Str × List Str} {met : List Str} {i : Nat} {st gn : List Str}, doneS ps ws s met i = .inr (st, gn) → st.length + gn.length ≤ s.1.length + s.2.length + ws.length
  | [], s, met, i, st, gn, h => by
    have h : (Sum.inr s : Nat ⊕ (List Str × List Str)) = .inr (st, gn) := h
    cases h
    exact Nat.le_refl _
  | w :: ws, s, met, i, st, gn, h => by
    rw [doneS_cons] at h
    cases ed : deedS w with
    | none =>
      rw [ed] at h
      cases h
    | some dd =>
      rw [ed] at h
      have h : (if canS dd s.1 met = true then (match dd with
        | none => doneS ps ws (s.1.drop 1, s.2 ++ s.1.take 1) met (i + 1)
        | some x => doneS ps ws (comeTo ps s.1 x, s.2) (met ++ [x]) (i + 1)) else .inl i) = .inr (st, gn) := h
      split at h
      · cases dd with
        | none =>
          have := doneS_len h
          simp only [List.length_append, List.length_drop, List.length_take, List.length_cons] at this ⊢
          omega
        | some x =>
          have := doneS_len h
          have c := (come_perm ps s.1 x).length_eq
          simp only [List.length_cons] at this c ⊢
          omega
      · cases h
theorem due_alk {K : PySem.W.Frag} {H : Hp} {R : Nat ⊕ (List Str × List Str)} {u v : V} (hl : ∀ st gn, R = .inr (st, gn) → st.length ≤ 1000 ∧ gn.length ≤ 1000) (d1 : DueIs H R u) (d2 : DueIs H R v) : Alk5 K H 3 u v := by
  rcases d1 with ⟨i, e1, rfl⟩ | ⟨st, gn, T, g, t, e1, rfl, h1, h2, h3⟩
  · rcases d2 with ⟨j, e2, rfl⟩ | ⟨st', gn', T', g', t', e2, _⟩
    · rw [e1] at e2
      cases e2
      exact alk5_int _
    · rw [e1] at e2
      cases e2
  · rcases d2 with ⟨j, e2, _⟩ | ⟨st', gn', T', g', t', e2, rfl, k1, k2, k3⟩
    · rw [e1] at e2
      cases e2
    · rw [e1] at e2
      cases e2
      obtain ⟨l1, l2⟩ := hl st gn e1
      exact alk5_tup2 (.inr h1) (.inr k1) (alk5_strsT (.of (.inr h2)) (.of (.inr k2)) l2) (alk5_strsT (.of (.inr h3)) (.of (.inr k3)) l1)
def spDueD : Sp := fun vs H Q _ => ∃ (a t p : Addr) (ps : List (Str × Str)) (olds : List Str) (ls : LR5), vs = [.ref a, .ref t, .ref p] ∧ PalsAt H a ps ∧ PalsOk ps ∧ TupAt H t (olds.map V.str) ∧ Goods olds ∧ H p = some (.lst (refsR5 ls)) ∧ (∀ q ∈ ls, TupAt H q.1 (q.2.map V.str)) ∧ Txts5 ls ∧ olds.length + ls.length ≤ 90 ∧
  ∀ v H', Same H H' → DueIs H' (doneS ps (ls.map (·.2)) (olds, []) olds 0) v → Q v H'
theorem due_imp : ∀ vs H Q E, spDueD vs H Q E → spDue5 vs H Q E := by
  rintro vs H Q E ⟨a, t, p, ps, olds, ls, e, h1, h2, h3, h4, h5, h6, h7, h8, q⟩
  exact ⟨a, t, p, ps, olds, ls, e, h1, h2, h3, h4, h5, h6, h7, h8, fun st gn r T g' t' H' s k1 k2 k3 _ _ => q _ H' s (.inr ⟨st, gn, T, g', t', r, rfl, k1, k2, k3⟩), fun i r H' s => q _ H' s (.inl ⟨i, r, rfl⟩)⟩
/-- a lambda that does these deeds, asked -/
theorem task_due {C : Addr} {R : Nat ⊕ (List Str × List Str)} {tl : XK → Hp → VK → Prop} {H : Hp} {Q : VK} (h : ∀ v H', Same H H' → DueIs H' R v → Q v H')
    (run : ∀ (H1 : Hp) (N : VK) (E : XK), Same H H1 → (∀ st gn, R = .inr (st, gn) → ∀ T g' t' H', Same H1 H' → TupAt H' T [.ref g', .ref t'] → TupAt H' g' (gn.map V.str) → TupAt H' t' (st.map V.str) → N (.ref T) H') →
      (∀ i : Nat, R = .inl i → ∀ d H', Same H1 H' → H1 d = none → H' d = some (.xd [("number", .int (i : Nat))]) → E (.ref C) (some d) H') → tl E H1 N) : TTask C tl H Q :=
  fun H1 N s hN => run H1 N _ s (fun st gn r T g' t' H' s' k1 k2 k3 => hN _ _ (h _ _ (s.trans s') (.inr ⟨st, gn, T, g', t', r, rfl, k1, k2, k3⟩)))
    fun i r d H' s' _ e => ⟨rfl, d, _, rfl, e, fun H'' s'' => h _ _ ((s.trans s').trans s'') (.inl ⟨i, r, rfl⟩)⟩
def rLst5 (K : PySem.W.Frag) : List V → Hp → VK → Prop := fun xs H Q => ∃ p ys, xs = [.ref p] ∧ (SqL K H p ys ∨ SqT K H p ys) ∧ ∀ l, H l = none → Q (.ref l) (upd H l (.lst ys))
theorem call_lst5 {X : Cx} : CallR X (.type "list") (rLst5 X.K) := call_list_of
def rTup5 (K : PySem.W.Frag) : List V → Hp → VK → Prop := fun xs H Q => ∃ p ys, xs = [.ref p] ∧ ((SqL K H p ys ∧ ∀ l H', Same H H' → H l = none → TupAt H' l ys → Q (.ref l) H') ∨ (SqT K H p ys ∧ Q (.ref p) H))
theorem call_tup5 {X : Cx} : CallR X (.type "tuple") (rTup5 X.K) := call_tupleF
theorem nodup_set : ∀ {xs : List Str} {i : Nat} {y : Str}, xs.Nodup → y ∉ xs → (xs.set i y).Nodup
  | [], i, y, _, _ => by simp
  | x :: xs, 0, y, h, n => by
    rw [List.set_cons_zero]
    exact List.nodup_cons.mpr ⟨fun z => n (List.mem_cons_of_mem _ z), (List.nodup_cons.mp h).2⟩
  | x :: xs, i + 1, y, h, n => by
    rw [List.set_cons_succ]
    obtain ⟨h1, h2⟩ := List.nodup_cons.mp h
    refine List.nodup_cons.mpr ⟨fun z => ?_, nodup_set h2 fun z => n (List.mem_cons_of_mem _ z)⟩
    rcases List.mem_or_eq_of_mem_set z with e | e
    · exact h1 e
    · exact n (by rw [← e]; exact List.mem_cons_self)
def datR (ls : LR5) : PyData := .list (ls.map fun q => .tuple (q.2.map .str))
theorem fit_datR {ls : LR5} (h : Txts5 ls) (hl : ls.length ≤ 90) : Fit 2 10000 (datR ls) := by
  refine (fit_list (n := 1) (w := 60) (m := 100) (fun d hd => ?_) (by rw [List.length_map]; omega)).mono (Nat.le_refl _) (by decide)
  obtain ⟨q, hq, rfl⟩ := List.mem_map.mp hd
  obtain ⟨l2, g⟩ := h q hq
  refine (fit_tuple (n := 0) (w := 8) (m := 2) (fun d hd => ?_) (by rw [List.length_map]; exact l2)).mono (Nat.le_refl _) (by decide)
  obtain ⟨x, hx, rfl⟩ := List.mem_map.mp hd
  rcases g x hx with e | e
  · exact fit_str e.good e.len
  · rw [e]
    exact fit_str good_A (by decide +kernel)
theorem dp_datR {K : PySem.W.Frag} {H : Hp} {p : Addr} {ls : LR5} (h : H p = some (.lst (refsR5 ls))) (ht : ∀ q ∈ ls, TupAt H q.1 (q.2.map V.str)) : Dp K H (.ref p) (datR ls) :=
  .lst (.inl (.inl h)) (dpAll_map _ _ fun q hq => .tup ((ht q hq).sq) (dp_strs q.2))
theorem PalsAt.extN {H H' : Hp} {a : Addr} {ps : List (Str × Str)} (x : ExtN H H') (e : PalsAt H a ps) : PalsAt H' a ps := by
  obtain ⟨bs, h1, h2, h3⟩ := e
  exact ⟨bs, x _ _ h1 tup_tbl, fun c hc => x _ _ (h2 c hc) tup_tbl, h3⟩
/-! ### deeds as they are drawn -/
structure DI (b S Lf : Addr) (T : List (Addr × Str)) (H5 H12 : Hp) (ls : LR5) (left : List Str) (H' : Hp) : Prop where
  nsb : S ≠ b
  nlb : Lf ≠ b
  nsl : S ≠ Lf
  fS : ∀ a o, a ≠ b → (∀ ps, o ≠ .tbl ps) → H5 a = some o → a ≠ S
  fL : ∀ a o, a ≠ b → (∀ ps, o ≠ .tbl ps) → H5 a = some o → a ≠ Lf
  x : ExtB b H5 H'
  k : KT H12 H'
  bx : IsBox H' b
  tb : Tabs T H'
  s : H' S = some (.lst (refsR5 ls))
  ts : ∀ q ∈ ls, TupAt H' q.1 (q.2.map V.str)
  tx : Txts5 ls
  l : H' Lf = some (.lst (left.map V.str))
  nm : ∀ y ∈ left, NameOk y
  ll : left.length ≤ 12
section
variable {b S Lf : Addr} {T : List (Addr × Str)} {H5 H12 H' H'' : Hp} {ls : LR5} {left : List Str}
theorem DI.oth (h : DI b S Lf T H5 H12 ls left H') (o : Oth b H' H'') (b'' : IsBox H'' b) : DI b S Lf T H5 H12 ls left H'' :=
  ⟨h.nsb, h.nlb, h.nsl, h.fS, h.fL, h.x.trans (.of o), h.k.trans (.oth o h.bx), b'', Tabs.oth h.bx o h.tb, o _ _ h.nsb h.s, fun q hq => (h.ts q hq).oth o h.bx, h.tx, o _ _ h.nlb h.l, h.nm, h.ll⟩
theorem DI.same (h : DI b S Lf T H5 H12 ls left H') (s : Same H' H'') : DI b S Lf T H5 H12 ls left H'' := h.oth (.of s) (h.bx.same s)
theorem box_upd {o : HO} (hb : IsBox H' b) (n : S ≠ b) : IsBox (upd H' S o) b := by
  obtain ⟨i, j, k, e⟩ := hb
  exact ⟨i, j, k, (upd_ne (fun z => n z.symm)).trans e⟩
theorem DI.app (h : DI b S Lf T H5 H12 ls left H') {q : Addr × List Str} (tq : TupAt H' q.1 (q.2.map V.str)) (xq : q.2.length ≤ 2 ∧ ∀ x ∈ q.2, NameOk x ∨ x = "A") : DI b S Lf T H5 H12 (ls ++ [q]) left (upd H' S (.lst (refsR5 ls ++ [.ref q.1]))) := by
  refine ⟨h.nsb, h.nlb, h.nsl, h.fS, h.fL, fun a o na nt e => ?_, h.k.trans (.lst h.s), box_upd h.bx h.nsb, Tabs.lst h.s h.tb, ?_, fun z hz => ?_, fun z hz => ?_, (upd_ne (fun z => h.nsl z.symm)).trans h.l, h.nm, h.ll⟩
  · rw [upd_ne (h.fS a o na nt e)]
    exact h.x a o na nt e
  · rw [upd_same]
    unfold refsR5
    rw [List.map_append]
    rfl
  · rcases List.mem_append.mp hz with e | e
    · exact (h.ts z e).updL h.s
    · rw [List.mem_singleton.mp e]
      exact tq.updL h.s
  · rcases List.mem_append.mp hz with e | e
    · exact h.tx z e
    · rw [List.mem_singleton.mp e]
      exact xq
theorem DI.pop (h : DI b S Lf T H5 H12 ls left H') : DI b S Lf T H5 H12 ls left.dropLast (upd H' Lf (.lst (left.map V.str).dropLast)) := by
  refine ⟨h.nsb, h.nlb, h.nsl, h.fS, h.fL, fun a o na nt e => ?_, h.k.trans (.lst h.l), box_upd h.bx h.nlb, Tabs.lst h.l h.tb, (upd_ne h.nsl).trans h.s, fun z hz => (h.ts z hz).updL h.l, h.tx, ?_, fun y hy => h.nm y ((List.dropLast_sublist _).subset hy), ?_⟩
  · rw [upd_ne (h.fL a o na nt e)]
    exact h.x a o na nt e
  · rw [upd_same, List.map_dropLast]
  · rw [List.length_dropLast]
    have := h.ll
    omega
end
end Lk
set_option maxRecDepth 100000
set_option maxHeartbeats 4000000
namespace Lk
open PySem PySem.Spec PyProof.Rows L2 LamX
def topS (i : Nat) : Stmt := PySem.Challenge.pw_letinrow_k05_comings_and_servings.main.body.getD i (.Pass ⟨0, 0, 0, 0⟩)
section
variable {P : Program} {w : World} {K : PySem.W.Frag} {mg : Str → Option Value} {base : Heap}
/-! ### _law_take -/
abbrev sTake : Stmt := topS 21
theorem scTake : FnScope ["_law_box_here", "_law_many", "_law_found", "_law_blend"] ["_law_box_here", "_law_many"] (defScope sTake) := ⟨rfl, rfl, rfl, by decide +kernel, rfl, by decide +kernel, by decide +kernel⟩
theorem ok_take {f : Addr} {fd : FuncData} (F : Fun K "_law_take" "_law_take" sTake f fd) : FnOk P w K mg base CX0 1 f fd ["_law_box_here", "_law_many"] spTake := by
  refine fok F scTake (fun vs H Q E h => ?_) (fun cdv A outer s H vs Q E hr h => ?_)
  · obtain ⟨b, many, rfl, _⟩ := h
    rfl
  obtain ⟨b, many, rfl, ⟨x, y, z, hb⟩, h0, h1, q⟩ := h
  refine ⟨_, pss_cons (ps_if (pt_cmpR op_gt (pe_ix ix_list (pv 0) pe_int (fun _ _ => rfl)) pe_int (nomark _))
      (pss_cons (ps_set (i := 2) scTake.nd rfl (.inl rfl) (pe_op op_mod (pe_ix ix_list (pv 0) pe_int (fun _ _ => rfl)) (pv 1)))
      (pss_cons (ps_asg (pe_op op_fdiv (pe_ix ix_list (pv 0) pe_int (fun _ _ => rfl)) (pv 1)) (pg_sub (pv 0) pe_int set_list))
      (pss_one (ps_ret (pv 2))))) pss_nil)
    (pss_cons (ps_asg (pe_op op_add (pe_ix ix_list (pv 0) pe_int (fun _ _ => rfl)) pe_int) (pg_sub (pv 0) pe_int set_list))
    (pss_cons (ps_set (i := 3) scTake.nd rfl (.inl rfl) (pe_op op_mod (pe_op op_add (pe_ix ix_list (pv 0) pe_int (fun _ _ => rfl)) (pe_op op_mul pe_int (pe_ix ix_list (pv 0) pe_int (fun _ _ => rfl)))) pe_int))
    (pss_cons (ps_set (i := 3) scTake.nd rfl (.inl rfl) (pe_op op_mod (pe_op op_add (pe_op op_add (pe_op op_mul (pv 3) (pv 3)) (pe_op op_mul pe_int (pe_ix ix_list (pv 0) pe_int (fun _ _ => rfl)))) pe_int) pe_int))
    (pss_cons (ps_set (i := 3) scTake.nd rfl (.inl rfl) (pe_op op_mod (pe_op op_add (pe_op op_mul (pv 3) (pe_op op_add (pe_op op_fdiv (pv 3) pe_int) pe_int)) (pe_ix ix_list (pv 0) pe_int (fun _ _ => rfl))) pe_int))
    (pss_one (ps_ret (pe_op op_mod (pe_op op_fdiv (pv 3) pe_int) (pv 1)))))))), ?_⟩
  have hL : SqL K H b [.int x, .int y, .int z] := .inl (.inl hb)
  refine ⟨.ref b, rfl, b, _, 0, _, rfl, rfl, hL, atI_nat (j := 0) rfl, _, _, rfl, rfl, _, rfl, ?_⟩
  refine ite2 (fun c => ?_) (fun c => ?_)
  · refine ⟨.ref b, rfl, b, _, 0, _, rfl, rfl, hL, atI_nat (j := 0) rfl, _, rfl, _, _, rfl, rfl, h0, ?_⟩
    refine ⟨.ref b, rfl, b, _, 0, _, rfl, rfl, hL, atI_nat (j := 0) rfl, _, rfl, _, _, rfl, rfl, ⟨h0, h1⟩, ?_⟩
    refine ⟨.ref b, rfl, b, _, 0, 0, rfl, rfl, hb, rfl, ?_⟩
    exact ⟨_, rfl, q _ _ Oth.upd ⟨_, _, _, upd_same⟩ (Int.emod_nonneg _ (by omega)) (Int.emod_lt_of_pos _ h0)⟩
  · refine ⟨.ref b, rfl, b, _, 2, _, rfl, rfl, hL, atI_nat (j := 2) rfl, _, _, rfl, rfl, ?_⟩
    refine ⟨.ref b, rfl, b, _, 2, 2, rfl, rfl, hb, rfl, ?_⟩
    have hU : upd H b (.lst ([.int x, .int y, .int z].set 2 (.int (z + 1)))) b = some (.lst [.int x, .int y, .int (z + 1)]) := upd_same
    have hL2 : SqL K (upd H b (.lst ([.int x, .int y, .int z].set 2 (.int (z + 1))))) b [.int x, .int y, .int (z + 1)] := .inl (.inl hU)
    refine ⟨.ref b, rfl, b, _, 1, _, rfl, rfl, hL2, atI_nat (j := 1) rfl, .ref b, rfl, b, _, 2, _, rfl, rfl, hL2, atI_nat (j := 2) rfl, _, _, rfl, rfl, .inl (by decide), _, _, rfl, rfl, _, _, rfl, rfl, (by show (0 : Int) < 2305843009213693951; decide), ?_⟩
    generalize hm1 : (y + 1442695040888963407 * (z + 1)) % 2305843009213693951 = m1
    have b1 : 0 ≤ m1 ∧ m1 < 2305843009213693951 := by
      rw [← hm1]
      exact ⟨Int.emod_nonneg _ (by decide), Int.emod_lt_of_pos _ (by decide)⟩
    refine ⟨_, rfl, _, rfl, _, _, rfl, rfl, .inl ⟨by omega, by omega⟩, .ref b, rfl, b, _, 2, _, rfl, rfl, hL2, atI_nat (j := 2) rfl, _, _, rfl, rfl, .inl (by decide), _, _, rfl, rfl, _, _, rfl, rfl, _, _, rfl, rfl, (by show (0 : Int) < 2305843009213693921; decide), ?_⟩
    generalize hm2 : (m1 * m1 + 39373 * (z + 1) + 7) % 2305843009213693921 = m2
    have b2 : 0 ≤ m2 ∧ m2 < 2305843009213693921 := by
      rw [← hm2]
      exact ⟨Int.emod_nonneg _ (by decide), Int.emod_lt_of_pos _ (by decide)⟩
    refine ⟨_, rfl, _, rfl, _, _, rfl, rfl, ⟨by decide, by decide⟩, _, _, rfl, rfl, _, _, rfl, rfl, .inl ⟨by omega, by omega⟩, .ref b, rfl, b, _, 2, _, rfl, rfl, hL2, atI_nat (j := 2) rfl, _, _, rfl, rfl, _, _, rfl, rfl, (by show (0 : Int) < 2305843009213693907; decide), ?_⟩
    generalize (m2 * (m2 / 65536 + 3) + (z + 1)) % 2305843009213693907 = m3
    refine ⟨_, rfl, _, _, rfl, rfl, ⟨by decide, by decide⟩, _, rfl, _, _, rfl, rfl, h0, ?_⟩
    exact q _ _ Oth.upd ⟨_, _, _, upd_same⟩ (Int.emod_nonneg _ (by omega)) (Int.emod_lt_of_pos _ h0)
/-! ### _law_box -/
abbrev sBox : Stmt := topS 20
theorem scBox : FnScope ["_law_cells_here", "_law_k", "_law_cell"] ["_law_cells_here", "_law_k"] (defScope sBox) := ⟨rfl, rfl, rfl, by decide +kernel, rfl, by decide +kernel, by decide +kernel⟩
theorem ok_box {f : Addr} {fd : FuncData} (B : Blt mg) (F : Fun K "_law_box" "_law_box" sBox f fd) : FnOk P w K mg base CX0 1 f fd ["_law_cells_here", "_law_k"] spBox := by
  refine fok F scBox (fun vs H Q E h => ?_) (fun cdv A outer s H vs Q E hr h => ?_)
  · obtain ⟨a, ns, k, rfl, _⟩ := h
    rfl
  obtain ⟨a, ns, k, rfl, ha, hk, hk2, q⟩ := h
  refine ⟨_, pss_cons (ps_set (i := 2) scBox.nd rfl (.inl rfl) (pe_ix ix_list (pv 0) (pv 1) (fun _ _ => rfl)))
    (pss_one (ps_ret (pe_lst (pa_cons (pe_op op_mul (pe_callB call_abs (by rfl) B.abs (by decide +kernel) (pa_cons (pv 2) pa_nil)) (pe_callTy call_int1 (by rfl) B.int (by decide +kernel) (pa_cons (pe_cmpR op_ge (pe_callB call_abs (by rfl) B.abs (by decide +kernel) (pa_cons (pv 2) pa_nil)) (pe_op op_pow pe_int pe_int) (nomark _)) pa_nil)))
      (pa_cons (pe_op op_add (pe_op op_add (pe_op op_mod (pv 2) pe_int) (pe_op op_mul pe_int (pv 1))) pe_int) (pa_cons pe_int pa_nil)))))), ?_⟩
  obtain ⟨c, hc⟩ : ∃ c, ns[k]? = some c := ⟨ns[k], List.getElem?_eq_getElem hk⟩
  refine ⟨.ref a, rfl, .int k, rfl, a, _, k, .int c, rfl, rfl, .inl (.inl ha), atI_nat (ix_map hc), ?_⟩
  refine ⟨_, rfl, _, rfl, _, rfl, _, rfl, _, _, rfl, rfl, ⟨by decide, by decide, by decide⟩, _, _, rfl, rfl, .inr ⟨_, rfl, _, _, rfl, rfl, .inr (bit01 _), ?_⟩⟩
  refine ⟨_, rfl, _, _, rfl, rfl, (by show (0 : Int) < 2305843009213693951; decide), _, rfl, _, _, rfl, rfl, .inl (by decide), _, _, rfl, rfl, _, _, rfl, rfl, (by show 3 ≤ sizeLine; decide), fun p hp => ?_⟩
  exact q p _ (same_upd hp) hp ⟨_, _, _, upd_same⟩
/-! ### _law_cells -/
abbrev sCells : Stmt := topS 22
theorem scCells : FnScope ["_law_script", "_law_utmost", "_law_cells_here", "_law_k", "_law_cell"] ["_law_script", "_law_utmost"] (defScope sCells) := ⟨rfl, rfl, rfl, by decide +kernel, rfl, by decide +kernel, by decide +kernel⟩
theorem ok_cells {f : Addr} {fd : FuncData} (B : Blt mg) (F : Fun K "_law_cells" "_law_cells" sCells f fd) : FnOk P w K mg base CX0 1 f fd ["_law_script", "_law_utmost"] (spCells K) := by
  refine fok F scCells (fun vs H Q E h => ?_) (fun cdv A outer s H vs Q E hr h => ?_)
  · obtain ⟨a, ns, k, rfl, _⟩ := h
    rfl
  obtain ⟨a, ns, u, rfl, ha, hn, h0, h3, q⟩ := h
  refine ⟨_, pss_cons (ps_set (i := 2) scCells.nd rfl (.inl rfl) (pe_orT (pe_callTy call_list_of (by rfl) B.list (by decide +kernel) (pa_cons (pe_slice sl_list (pv 0) po_none (po_some (pv 1))) pa_nil)) (pe_one (pe_lst (pa_cons pe_int pa_nil)))))
    (pss_cons (ps_for PassesOwn.never rfl (pi_enum (by rfl) B.enumerate (pa_cons (pe_slice sl_list (pv 0) (po_some (pv 1)) (po_some pe_int)) pa_nil))
        (pg_tup rfl (pgs_cons (pg_name (i := 3) scCells.nd rfl (.inl rfl)) (pgs_cons (pg_name (i := 4) scCells.nd rfl (.inl rfl)) pgs_nil)))
      (pss_one (ps_asg (pe_op op_add (pe_ix ix_list (pv 2) (pe_op op_mod (pv 3) (pv 1)) (fun _ _ => rfl)) (pe_op op_mul (pv 4) (pe_op op_add (pv 3) pe_int))) (pg_sub (pv 2) (pe_op op_mod (pv 3) (pv 1)) set_list))))
    (pss_one (ps_ret (pv 2)))), ?_⟩
  -- what follows once cells stand at c
  have rest : ∀ (c : Addr) (ms : List Int) (H1 : Hp), Same H H1 → H c = none → H1 c = some (.lst (ms.map V.int)) → 0 < ms.length → ms.length ≤ 3 → (u < ns.length → ms.length = u) → ∀ (D : Ends) , D.rt = Q → 
      (tSeq (tFor (iEnum K (tCons (tSl (rSlL K) (tVar 0) (tPart (tVar 1)) (tPart (tC (.int 63)))) tNil)) (gTup K 2 (gCons (gName 3) (gCons (gName 4) gNil))) (tAsg (tOp (rI0 fun i j => .int (i + j)) (tOp (rIxL K) (tVar 2) (tOp (rI (fun _ j => 0 < j) fun i j => .int (i % j)) (tVar 3) (tVar 1))) (tOp (rI CMul fun i j => .int (i * j)) (tVar 4) (tOp (rI0 fun i j => .int (i + j)) (tVar 3) (tC (.int 2))))) (gSub (tVar 2) (tOp (rI (fun _ j => 0 < j) fun i j => .int (i % j)) (tVar 3) (tVar 1)) rSetL))) (tRet (tVar 2))) D [some (.ref a), some (.int u), some (.ref c), none, none] H1 := by
    intro c ms H1 s1 nc hc m0 m3 mu D hD
    refine ⟨.ref a, rfl, _, rfl, u, rfl, 63, rfl, a, _, rfl, s1.seq ha, fun p hp => ?_⟩
    have s2 : Same H1 (upd H1 p (.lst (cutV (ns.map V.int) (some u) (some 63)))) := same_upd hp
    have npc : c ≠ p := ne_of_none hc hp
    rw [cutV_map]
    generalize hr2 : cutL ns (some (u : Int)) (some 63) = r2
    refine ⟨p, r2.map V.int, rfl, .inl (.inl upd_same), ?_⟩
    refine for_it (walk_enum (xs := r2.map V.int)) (fun i σ H3 => ∃ (y3 y4 : Option V) (ms' : List Int), σ = [some (.ref a), some (.int u), some (.ref c), y3, y4] ∧ Same H H3 ∧ H3 p = some (.lst (r2.map V.int)) ∧ H3 c = some (.lst (ms'.map V.int)) ∧ ms'.length = ms.length) ?_ ?_ ?_ ?_
    · exact ⟨none, none, ms, rfl, s1.trans (same_upd hp), upd_same, (upd_ne npc).trans hc, rfl⟩
    · rintro i σ H3 _ ⟨y3, y4, ms', rfl, e1, e2, e3, e4⟩
      exact .inl (.inl e2)
    · rintro i x σ H3 H4 hi ⟨y3, y4, ms', rfl, e1, e2, e3, e4⟩ ⟨T, x1, x2, rfl, nT, rfl, f1, f2⟩
      cases f1
      obtain ⟨z, hz, rfl⟩ := at_map f2
      rw [List.length_map] at hi
      have hun : u < ns.length := cutL_has (k := u) (hi := some 63) (by rw [hr2]; omega)
      have hml := mu hun
      have nTc : c ≠ T := ne_of_none e3 nT
      have nTp : p ≠ T := ne_of_none e2 nT
      refine ⟨T, _, rfl, .inl (.inl upd_same), rfl, _, _, rfl, _, _, rfl, rfl, ?_⟩
      have hlt : i % u < ms'.length := by
        rw [e4, hml]
        exact Nat.mod_lt _ h0
      have e3' : upd H3 T (.tup [.int (i : Nat), .int z]) c = some (.lst (ms'.map V.int)) := (upd_ne nTc).trans e3
      have eim : ((i : Int) % (u : Int)) = ((i % u : Nat) : Int) := (Int.natCast_emod i u).symm
      have hi2 : i < 63 := by
        have q1 := cutL_le ns (some (u : Int)) (some 63)
        rw [hr2] at q1
        omega
      refine ⟨.ref c, rfl, _, rfl, _, rfl, _, _, rfl, rfl, (by show (0 : Int) < u; omega), c, _, _, .int ms'[i % u], rfl, rfl, .inl (.inl e3'), (by rw [eim]; exact atI_nat (ix_map (List.getElem?_eq_getElem hlt))), ?_⟩
      refine ⟨_, rfl, _, rfl, _, _, rfl, rfl, _, _, rfl, rfl, .inr ⟨by omega, by omega⟩, _, _, rfl, rfl, ?_⟩
      refine ⟨.ref c, rfl, _, rfl, _, rfl, _, _, rfl, rfl, (by show (0 : Int) < u; omega), c, _, _, i % u, rfl, rfl, e3', ?_, ?_⟩
      · rw [eim, List.length_map]
        unfold ixN
        rw [if_pos (by omega), if_pos (by omega), Int.toNat_natCast]
      · refine ⟨_, _, ms'.set (i % u) (ms'[i % u] + z * ((i : Int) + 2)), rfl, fun b o e => ?_, ?_, ?_, ?_⟩
        · rw [upd_ne (ne_of_none e nc)]
          exact same_upd nT _ _ (e1 b o e)
        · rw [upd_ne (Ne.symm npc), upd_ne nTp]
          exact e2
        · rw [upd_same, ← set_map]
        · rw [List.length_set]
          exact e4
    · rintro σ H3 ⟨y3, y4, ms', rfl, e1, e2, e3, e4⟩
      refine ⟨.ref c, rfl, ?_⟩
      rw [hD]
      exact q c ms' H3 e1 nc e3 (by omega) (by omega)
  -- cells = list(script[:u]) or [0]
  refine ⟨.ref a, rfl, .int u, rfl, u, rfl, a, _, rfl, ha, fun p hp => ?_⟩
  rw [cutV_map, cutL_to]
  refine ⟨p, _, rfl, .inl (.inl (.inl upd_same)), fun l hl => ?_⟩
  have s2 : Same H (upd H p (.lst ((ns.take u).map V.int))) := same_upd hp
  have s3 := s2.trans (same_upd (o := .lst ((ns.take u).map V.int)) hl)
  refine ⟨_, .inl ⟨_, .inl (.inl upd_same), rfl⟩, ?_⟩
  refine ite2 (fun z => ?_) (fun z => ?_)
  · have hne : 0 < ns.length := by
      cases ns with
      | nil => rw [List.take_nil] at z; cases z
      | cons n r => exact Nat.succ_pos _
    refine rest l (ns.take u) _ s3 (s2.free hl) upd_same ?_ ?_ ?_ _ rfl
    · rw [List.length_take]
      omega
    · rw [List.length_take]
      omega
    · intro z
      rw [List.length_take]
      omega
  · have hne : ns.length = 0 := by
      cases ns with
      | nil => rfl
      | cons n r =>
        have e : u = (u - 1) + 1 := by omega
        rw [e, List.take_succ_cons] at z
        exact absurd rfl z
    refine ⟨(by show 1 ≤ sizeLine; decide), fun c hc => ?_⟩
    exact rest c [0] _ (s3.trans (same_upd hc)) (s3.free hc) upd_same (by decide) (by decide) (fun z => absurd z (by omega)) _ rfl
/-! ### _law_names -/
abbrev sNames : Stmt := topS 23
abbrev nNames : List Str := ["_law_box_here", "_law_many", "_law_letters", "_law_first", "_law_found", "_law_stem", "_law_step", "_law_few", "_law_k", "_law_cut", "_law_name", "_law_turn"]
theorem scNames : FnScope nNames ["_law_box_here", "_law_many"] (defScope sNames) := ⟨rfl, rfl, rfl, by decide +kernel, rfl, by decide +kernel, by decide +kernel⟩
theorem ok_names {f : Addr} {fd : FuncData} (B : Blt mg) (CT : Cal P w K mg base 1 "_law_take" ["_law_box_here", "_law_many"] spTake) (F : Fun K "_law_names" "_law_names" sNames f fd) : FnOk P w K mg base CX0 2 f fd ["_law_box_here", "_law_many"] spNames := by
  refine fok F scNames (fun vs H Q E h => ?_) (fun cdv A outer s H vs Q E hr h => ?_)
  · obtain ⟨b, many, rfl, _⟩ := h
    rfl
  obtain ⟨b, many, rfl, hb, hm, q⟩ := h
  refine ⟨_, pss_cons (ps_asg (pe_tup (pa_cons pe_str (pa_cons (pe_cal CT hr (pa_cons (pv 0) (pa_cons pe_int pa_nil))) (pa_cons (pe_lst pa_nil) pa_nil)))) (pg_tup rfl (pgs_cons (pg_name (i := 2) scNames.nd rfl (.inr rfl)) (pgs_cons (pg_name (i := 3) scNames.nd rfl (.inl rfl)) (pgs_cons (pg_name (i := 4) scNames.nd rfl (.inl rfl)) pgs_nil)))))
    (pss_cons (ps_set (i := 5) scNames.nd rfl (.inl rfl) (pe_join pe_str
      (pe_lc (own := [("_law_turn", 11)]) (g := gName 11) (tt := tYes) rfl scNames.nd (pi_range1 (by rfl) B.range (pa_cons (pe_cal CT hr (pa_cons (pv 0) (pa_cons pe_int pa_nil))) pa_nil)) (blkOk_by (N := nNames) (sc := defScope sNames) (by decide +kernel)) (fun _ _ _ _ _ => pg_name (i := 11) scNames.nd rfl (Or.inl rfl)) (fun _ _ _ _ _ => pts_nil)
        (fun _ _ _ _ _ => pe_ix ix_str (pv 2) (pe_cal CT hr (pa_cons (pv 0) (pa_cons pe_int pa_nil))) (fun _ _ => rfl)))))
    (pss_cons (ps_par (i := 6) (j := 7) (by rfl) scNames.nd rfl rfl (by decide) rfl rfl (pa_cons (pe_ix ix_list (pe_lst (pa_cons pe_int (pa_cons pe_int (pa_cons pe_int (pa_cons pe_int pa_nil))))) (pe_cal CT hr (pa_cons (pv 0) (pa_cons pe_int pa_nil))) (fun _ _ => rfl)) (pa_cons (pe_callTy call_int1 (by rfl) B.int (by decide +kernel) (pa_cons (pe_cmpR op_eq (pe_op op_mod (pv 3) pe_int) pe_int (nomark _)) pa_nil)) pa_nil)) (by rfl))
    (pss_cons (ps_for PassesOwn.never rfl (pi_range1 (by rfl) B.range (pa_cons (pv 1) pa_nil)) (pg_name (i := 8) scNames.nd rfl (.inl rfl))
      (pss_cons (ps_set (i := 9) scNames.nd rfl (.inl rfl) (pe_op op_sub (pe_callB call_len_str (by rfl) B.len PySem.boot_len (pa_cons (pv 5) pa_nil)) (pe_op op_mul (pv 7) (pe_op op_mod (pv 8) pe_int))))
      (pss_cons (ps_set (i := 10) scNames.nd rfl (.inl rfl) (pe_op op_add_str (pe_slice sl_str (pv 5) po_none (po_some (pv 9))) (pe_ix ix_str (pv 2) (pe_op op_mod (pe_op op_add (pv 3) (pe_op op_mul (pv 6) (pv 8))) pe_int) (fun _ _ => rfl))))
      (pss_one (ps_expr (pe_bm PySem.F.plainAttrs_list PySem.F.slot_list_insert PySem.F.type_list_insert mt_insert (pv 4) (pa_cons (pe_cal CT hr (pa_cons (pv 0) (pa_cons (pe_op op_add (pe_callB call_len_seq (by rfl) B.len PySem.boot_len (pa_cons (pv 4) pa_nil)) pe_int) pa_nil))) (pa_cons (pv 10) pa_nil))))))))
    (pss_one (ps_ret (pv 4)))))), ?_⟩
  -- letters, first, found
  refine ⟨.ref b, rfl, b, 26, rfl, hb, by decide, by decide, fun first H1 o1 b1 f0 f1 => ⟨(by show 0 ≤ sizeLine; decide), fun l hl => ?_⟩⟩
  refine ⟨(by show 3 ≤ sizeLine; decide), fun t ht => ?_⟩
  have nlb : l ≠ b := b1.ne_none hl
  have ntl : t ≠ l := fun z => by rw [z, upd_same] at ht; cases ht
  have ntb : t ≠ b := fun z => by
    rw [z, upd_ne (Ne.symm nlb)] at ht
    exact b1.ne_none ht rfl
  have nl : H l = none := o1.free nlb hl
  refine ⟨t, _, rfl, .inl (.inl upd_same), rfl, _, _, rfl, _, _, rfl, _, _, rfl, rfl, ?_⟩
  dsimp only
  generalize hH2 : upd (upd H1 l (.lst [])) t (.tup [.str (Str.ofString "abcdefghijklmnopqrstuvwxyz"), .int first, .ref l]) = H2
  have o2 : Oth b H H2 := o1.trans (fun a o n e => by
    rw [← hH2]
    exact same_upd ht _ _ (same_upd hl _ _ e))
  have b2 : IsBox H2 b := by
    rw [← hH2]
    exact (b1.same (same_upd hl)).same (same_upd ht)
  have l2 : H2 l = some (.lst []) := by
    rw [← hH2, upd_ne (Ne.symm ntl), upd_same]
  -- stem
  refine ⟨⟨_, rfl⟩, .ref b, rfl, b, 8, rfl, b2, by decide, by decide, fun n H3 o3 b3 n0 n1 => ⟨n, rfl, by omega, by omega, fun D hD => ?_⟩⟩
  have nDb : D ≠ b := b3.ne_none hD
  have l3 : H3 l = some (.lst []) := o3 _ _ nlb l2
  have nDl : l ≠ D := ne_of_none l3 hD
  refine lc_it (walk_range (lo := 0) (n := n.toNat)) (fun i H' => ∃ ys : List Str, Oth b H H' ∧ IsBox H' b ∧ H' l = some (.lst []) ∧ H' D = some (.lst (ys.map V.str)) ∧ ys.length = i ∧ ∀ y ∈ ys, IsOne y) ?_ (fun _ _ _ _ => trivial) ?_ ?_
  · refine ⟨[], fun a o na e => ?_, b3.same (same_upd hD), (upd_ne nDl).trans l3, upd_same, rfl, fun _ h => nomatch h⟩
    exact same_upd hD _ _ (o3 _ _ na (o2 _ _ na e))
  · rintro i x H4 H5 hi ⟨ys, o4, b4, l4, d4, y1, y2⟩ ⟨rfl, rfl⟩
    refine ⟨rfl, ⟨.str abc, rfl, .ref b, rfl, b, 26, rfl, b4, by decide, by decide, fun v H6 o6 b6 v0 v1 => ⟨abc, v, 97 + v.toNat, rfl, rfl, (by rw [abc_len]; decide), abc_ix v0 v1, ys.map V.str, o6 _ _ nDb d4, ?_, ?_⟩⟩⟩
    · rw [List.length_map]
      exact small1000 (by omega)
    · have s6 : ∀ a o, a ≠ D → H6 a = some o → upd H6 D (.lst (ys.map V.str ++ [.str ⟨#[97 + v.toNat]⟩])) a = some o := fun a o na e => by rw [upd_ne na]; exact e
      refine ⟨ys ++ [⟨#[97 + v.toNat]⟩], fun a o na e => ?_, ?_, s6 _ _ nDl (o6 _ _ nlb l4), ?_, ?_, ?_⟩
      · have q6 := o6 _ _ na (o4 _ _ na e)
        by_cases z : a = D
        · subst z
          have q3 := o3.free nDb hD
          rw [o2 _ _ na e] at q3
          cases q3
        · exact s6 _ _ z q6
      · obtain ⟨i1, i2, i3, e⟩ := b6
        exact ⟨i1, i2, i3, s6 _ _ (Ne.symm nDb) e⟩
      · rw [upd_same, List.map_append]
        rfl
      · rw [List.length_append, y1]
        rfl
      · intro y hy
        rcases List.mem_append.mp hy with z | z
        · exact y2 y z
        · have e : y = ⟨#[97 + v.toNat]⟩ := by simpa using z
          exact ⟨v.toNat, by omega, e⟩
  · rintro H4 ⟨ys, o4, b4, l4, d4, y1, y2⟩
    have z1 := ones_len y2
    refine ⟨_, D, ys, rfl, rfl, .inl (.inl (.inl d4)), ?_, ?_⟩
    · rw [z1]
      have z2 : (Str.ofString "").length = 0 := by decide +kernel
      rw [z2]
      omega
    have w1 := ones_flat y2
    rw [← join0] at w1
    generalize Txt.join (Str.ofString "") ys = stem at w1
    have w2 : (tlx stem).length ≤ 7 := by rw [w1.1]; omega
    have w3 : Low (tlx stem) := w1.2
    clear w1 z1
    -- step, few
    refine ⟨(by show 4 ≤ sizeLine; decide), fun p hp => ⟨.ref b, rfl, b, 4, rfl, b4.same (same_upd hp), by decide, by decide, fun v H5 o5 b5 v0 v1 => ?_⟩⟩
    obtain ⟨step, hst, hat⟩ := menu4 v0 v1
    have npb : p ≠ b := b4.ne_none hp
    have o5' : Oth b H H5 := fun a o na e => o5 _ _ na (same_upd hp _ _ (o4 _ _ na e))
    have l5 : H5 l = some (.lst []) := o5 _ _ nlb (same_upd hp _ _ l4)
    refine ⟨p, _, v, .int step, rfl, rfl, .inl (.inl (o5 _ _ npb upd_same)), hat, ?_⟩
    refine ⟨.int first, rfl, _, _, rfl, rfl, (by show (0 : Int) < 4; decide), rfl, .inr ⟨_, rfl, _, _, rfl, ?_⟩⟩
    generalize hk : (decide (V.int (first % 4) = V.int 3)) = kf
    have hf := bit2 kf
    generalize (if kf = true then 1 else 0 : Int) = few at hf
    -- the loop
    refine ⟨.int many, rfl, many, rfl, by omega, by omega, ?_⟩
    refine for_it (walk_range (lo := 0) (n := (many : Int).toNat)) (fun i σ H' => ∃ (y8 y9 y10 y11 : Option V) (names : List Str), σ = [some (.ref b), some (.int many), some (.str abc), some (.int first), some (.ref l), some (.str stem), some (.int step), some (.int few), y8, y9, y10, y11] ∧ Oth b H H' ∧ IsBox H' b ∧ H' l = some (.lst (names.map V.str)) ∧ names.length = i ∧ names.Nodup ∧ ∀ x ∈ names, NameOk x ∧ ∃ j : Nat, j < i ∧ lastC x = some (97 + ((first + step * (j : Int)) % 26).toNat)) ?_ (fun _ _ _ _ _ => trivial) ?_ ?_
    · exact ⟨_, _, _, _, [], rfl, o5', b5, l5, rfl, List.nodup_nil, fun _ h => nomatch h⟩
    · rintro i x σ H7 H6 hi ⟨y8, y9, y10, y11, names, rfl, o6, b6, l6, m1, m2, m3⟩ ⟨rfl, rfl⟩
      have hi2 : i < 26 := by omega
      have hsl : stem.length ≤ sizeLine := by rw [len_tlx]; exact small_le (by omega)
      refine ⟨_, rfl, _, rfl, hsl, _, rfl, _, rfl, _, _, rfl, rfl, (by show (0 : Int) < 3; decide), _, _, rfl, rfl, .inl ⟨by omega, by omega⟩, _, _, rfl, rfl, ?_⟩
      dsimp only
      generalize (stem.length : Int) - few * ((0 + (i : Int)) % 3) = cut
      have c0 : 0 ≤ (first + step * (0 + (i : Int))) % 26 := Int.emod_nonneg _ (by decide)
      have c1 : (first + step * (0 + (i : Int))) % 26 < 26 := Int.emod_lt_of_pos _ (by decide)
      refine ⟨_, rfl, _, rfl, cut, rfl, stem, rfl, hsl, _, rfl, _, rfl, _, rfl, _, rfl, _, _, rfl, rfl, ?_, _, _, rfl, rfl, _, _, rfl, rfl, (by show (0 : Int) < 26; decide), abc, _, _, rfl, rfl, (by rw [abc_len]; decide), abc_ix c0 c1, _, _, rfl, rfl, ?_, ?_⟩
      · rcases hst with rfl | rfl | rfl | rfl <;> exact .inl (by decide)
      · rw [len_tlx, cutS_tlx]
        have z := cutL_le (tlx stem) none (some cut)
        exact small_le (by show _ + 1 ≤ 1000; omega)
      rw [Int.zero_add] at c0 c1 ⊢
      have nok : NameOk (cutS stem none (some cut) ++ ⟨#[97 + ((first + step * (i : Int)) % 26).toNat]⟩) := name_ok w2 w3 (by omega)
      have nla := lastC_app (cutS stem none (some cut)) (97 + ((first + step * (i : Int)) % 26).toNat)
      generalize (cutS stem none (some cut) ++ ⟨#[97 + ((first + step * (i : Int)) % 26).toNat]⟩ : Str) = nm at nok nla
      have hnew : nm ∉ names := fun hm2 => by
        obtain ⟨_, j, hj, ej⟩ := m3 nm hm2
        rw [nla] at ej
        have q1 := Option.some.inj ej
        have q2 := apart hst hj hi2 first
        have q3 : 0 ≤ (first + step * (j : Int)) % 26 := Int.emod_nonneg _ (by decide)
        omega
      -- found.insert(take(box, len(found) + 1), name)
      have L6 : SqL K H6 l (names.map V.str) := .inl (.inl l6)
      refine ⟨.ref l, rfl, .inl ⟨rfl, _, L6⟩, .ref b, rfl, .ref l, rfl, l, _, rfl, .inl L6, _, _, rfl, rfl, b, _, rfl, b6, by omega, ?_, fun v H8 o8 b8 v0 v1 => ?_⟩
      · rw [List.length_map]
        omega
      have l8 : H8 l = some (.lst (names.map V.str)) := o8 _ _ nlb l6
      refine ⟨_, rfl, l, _, v, _, rfl, rfl, l8, ?_, v0, ?_, ?_⟩
      · rw [List.length_map]
        exact small1000 (by omega)
      · rw [List.length_map] at v1
        omega
      have pm := ins_perm names v.toNat nm
      refine ⟨_, _, _, _, names.take v.toNat ++ [nm] ++ names.drop v.toNat, rfl, fun a o na e => ?_, ?_, ?_, ?_, ?_, ?_⟩
      · have e8 := o8 _ _ na (o6 _ _ na e)
        rw [upd_ne (ne_of_none e nl)]
        exact e8
      · obtain ⟨i1, i2, i3, e⟩ := b8
        exact ⟨i1, i2, i3, (upd_ne (Ne.symm nlb)).trans e⟩
      · rw [upd_same, ins_map]
      · rw [pm.length_eq, List.length_cons, m1]
      · exact pm.nodup_iff.mpr (List.nodup_cons.mpr ⟨hnew, m2⟩)
      · intro x hx
        rcases List.mem_cons.mp (pm.mem_iff.mp hx) with rfl | hx
        · exact ⟨nok, i, Nat.lt_succ_self _, nla⟩
        · obtain ⟨z1, j, z2, z3⟩ := m3 x hx
          exact ⟨z1, j, Nat.lt_succ_of_lt z2, z3⟩
    · rintro σ H6 ⟨y8, y9, y10, y11, names, rfl, o6, b6, l6, m1, m2, m3⟩
      exact ⟨.ref l, rfl, q l names H6 o6 b6 nl l6 (by omega) m2 fun x hx => (m3 x hx).1⟩
/-! ### _law_pals -/
abbrev sPals : Stmt := topS 24
abbrev nPals : List Str := ["_law_box_here", "_law_pool", "_law_way", "_law_found", "_law_side", "_law_k", "_law_mine", "_law_j", "_law_fine", "_law_name"]
theorem scPals : FnScope nPals ["_law_box_here", "_law_pool"] (defScope sPals) := ⟨rfl, rfl, rfl, by decide +kernel, rfl, by decide +kernel, by decide +kernel⟩
theorem ok_pals {f : Addr} {fd : FuncData} (B : Blt mg) (CT : Cal P w K mg base 1 "_law_take" ["_law_box_here", "_law_many"] spTake) (F : Fun K "_law_pals" "_law_pals" sPals f fd) : FnOk P w K mg base CX0 2 f fd ["_law_box_here", "_law_pool"] spPals := by
  refine fok F scPals (fun vs H Q E h => ?_) (fun cdv A outer s H vs Q E hr h => ?_)
  · obtain ⟨b, l, pool, rfl, _⟩ := h
    rfl
  obtain ⟨b, l, pool, rfl, hb, hl, hnd, hn, q⟩ := h
  refine ⟨_, pss_cons (ps_par (i := 2) (j := 3) (by rfl) scPals.nd rfl rfl (by decide) rfl rfl (pa_cons (pe_cal CT hr (pa_cons (pv 0) (pa_cons pe_int pa_nil))) (pa_cons (pe_lst pa_nil) pa_nil)) (by rfl))
    (pss_cons (ps_setLc (i := 4) (own := [("_law_name", 9)]) (g := gName 9) (tt := tYes) rfl scPals.nd rfl rfl (sw_true rfl rfl rfl (by decide +kernel)) (pi_list (pv 1)) (blkOk_by (N := nPals) (sc := defScope sPals) (by decide +kernel)) (fun _ _ _ _ _ => pg_name (i := 9) scPals.nd rfl (Or.inl rfl)) (fun _ _ _ _ _ => pts_nil)
        (fun _ _ _ _ _ => pe_cal CT hr (pa_cons (pv 0) (pa_cons pe_int pa_nil))))
    (pss_cons (ps_for PassesOwn.never rfl (pi_enum (by rfl) B.enumerate (pa_cons (pv 1) pa_nil)) (pg_tup rfl (pgs_cons (pg_name (i := 5) scPals.nd rfl (.inl rfl)) (pgs_cons (pg_name (i := 6) scPals.nd rfl (.inl rfl)) pgs_nil)))
      (pss_one (ps_for PassesOwn.never rfl (pi_range1 (by rfl) B.range (pa_cons (pv 5) pa_nil)) (pg_name (i := 7) scPals.nd rfl (.inl rfl))
        (pss_cons (ps_set (i := 8) scPals.nd rfl (.inl rfl) (pe_mid (pe_ix ix_list (pe_lst (pa_cons (pe_cmpR op_eq (pe_cal CT hr (pa_cons (pv 0) (pa_cons pe_int pa_nil))) pe_int (nomark _)) (pa_cons (pe_cmpR op_eq (pe_cal CT hr (pa_cons (pv 0) (pa_cons pe_int pa_nil))) pe_int (nomark _)) (pa_cons (pe_cmpR op_gt (pe_cal CT hr (pa_cons (pv 0) (pa_cons pe_int pa_nil))) pe_int (nomark _)) pa_nil)))) (pe_op op_mod (pv 2) pe_int) (fun _ _ => rfl))))
        (pss_cons (ps_set (i := 8) scPals.nd rfl (.inl rfl) (pe_mid (pe_ifExp (pt_cmpR op_eq (pv 2) pe_int (nomark _)) (pe_cmpR op_eq (pe_ix ix_list (pv 4) (pv 5) (fun _ _ => rfl)) (pe_ix ix_list (pv 4) (pv 7) (fun _ _ => rfl)) (nomark _)) (pv 8))))
        (pss_one (ps_if (pt_val (pv 8)) (pss_one (ps_expr (pe_bm PySem.F.plainAttrs_list PySem.F.slot_list_append PySem.F.type_list_append mt_append (pv 3) (pa_cons (pe_tup (pa_cons (pe_callB (call_minS rfl) (by rfl) B.min (by decide +kernel) (pa_cons (pv 6) (pa_cons (pe_ix ix_list (pv 1) (pv 7) (fun _ _ => rfl)) pa_nil))) (pa_cons (pe_callB (call_maxS rfl) (by rfl) B.max (by decide +kernel) (pa_cons (pv 6) (pa_cons (pe_ix ix_list (pv 1) (pv 7) (fun _ _ => rfl)) pa_nil))) pa_nil))) pa_nil)))) pss_nil)))))))
    (pss_one (ps_ret (pe_callTy call_tuple_of (by rfl) B.tuple (by decide +kernel) (pa_cons (pe_callB (cr_sortedTT hr.units) (by rfl) B.sorted (by decide +kernel) (pa_cons (pv 3) pa_nil)) pa_nil)))))), ?_⟩
  have nlb : l ≠ b := hb.ne_strs hl
  -- way, found
  refine ⟨.ref b, rfl, b, 6, rfl, hb, by decide, by decide, fun way H1 o1 b1 w0 w1 => ⟨(by show 0 ≤ sizeLine; decide), fun fa hfa => ⟨_, _, rfl, ?_⟩⟩⟩
  have nfb : fa ≠ b := b1.ne_none hfa
  have nf : H fa = none := o1.free nfb hfa
  have l1 : H1 l = some (.lst (pool.map V.str)) := o1 _ _ nlb hl
  have nlf : l ≠ fa := ne_of_none l1 hfa
  have l2 : upd H1 fa (.lst []) l = some (.lst (pool.map V.str)) := (upd_ne nlf).trans l1
  have b2 : IsBox (upd H1 fa (.lst [])) b := b1.same (same_upd hfa)
  have o2 : Oth b H (upd H1 fa (.lst [])) := o1.trans (Oth.of (same_upd hfa))
  have f2 : upd H1 fa (.lst []) fa = some (.lst []) := upd_same
  dsimp only
  generalize upd H1 fa (.lst []) = H2 at *
  -- side
  refine ⟨.ref l, rfl, l, rfl, ⟨_, .inl (.inl l2)⟩, fun sa hsa => ?_⟩
  have nsb : sa ≠ b := b2.ne_none hsa
  have nsl : l ≠ sa := ne_of_none l2 hsa
  have nsf : fa ≠ sa := ne_of_none f2 hsa
  have ns : H sa = none := o2.free nsb hsa
  refine lc_it (walk_list (xs := pool.map V.str)) (fun i H' => ∃ sd : List Int, Oth b H H' ∧ IsBox H' b ∧ H' l = some (.lst (pool.map V.str)) ∧ H' fa = some (.lst []) ∧ H' sa = some (.lst (sd.map V.int)) ∧ sd.length = i) ?_ ?_ ?_ ?_
  · exact ⟨[], o2.trans (Oth.of (same_upd hsa)), b2.same (same_upd hsa), (upd_ne nsl).trans l2, (upd_ne nsf).trans f2, upd_same, rfl⟩
  · rintro i H' _ ⟨sd, _, _, e, _⟩
    exact .inl (.inl e)
  · rintro i x H4 H3 hi ⟨sd, o3, b3, l3, f3, s3, m3⟩ ⟨rfl, _⟩
    rw [List.length_map] at hi
    refine ⟨rfl, ⟨.ref b, rfl, b, 3, rfl, b3, by decide, by decide, fun v H5 o5 b5 v0 v1 => ⟨sd.map V.int, o5 _ _ nsb s3, ?_, ?_⟩⟩⟩
    · rw [List.length_map]
      exact small1000 (by omega)
    · refine ⟨sd ++ [v], fun a o na e => ?_, ?_, (upd_ne nsl).trans (o5 _ _ nlb l3), (upd_ne nsf).trans (o5 _ _ nfb f3), ?_, ?_⟩
      · rw [upd_ne (ne_of_none e ns)]
        exact o5 _ _ na (o3 _ _ na e)
      · obtain ⟨i1, i2, i3, e⟩ := b5
        exact ⟨i1, i2, i3, (upd_ne (Ne.symm nsb)).trans e⟩
      · rw [upd_same, List.map_append]
        rfl
      · rw [List.length_append, m3]
        rfl
  rintro H3 ⟨sd, o3, b3, l3, f3, s3, m3⟩
  rw [List.length_map] at m3
  -- the loops
  have hw : way = 0 ∨ way = 1 ∨ way = 2 ∨ way = 3 ∨ way = 4 ∨ way = 5 := by omega
  refine ⟨.ref l, rfl, l, _, rfl, .inl (.inl l3), ?_⟩
  refine for_it (walk_enum (xs := pool.map V.str)) (fun i σ H' => ∃ (y5 y6 y7 y8 y9 : Option V) (bs : List B3), σ = [some (.ref b), some (.ref l), some (.int way), some (.ref fa), some (.ref sa), y5, y6, y7, y8, y9] ∧ Oth b H H' ∧ IsBox H' b ∧ H' l = some (.lst (pool.map V.str)) ∧ H' fa = some (.lst (refs bs)) ∧ H' sa = some (.lst (sd.map V.int)) ∧ PairsAt H' bs ∧ OfPool pool (bs.map (·.2)) ∧ bs.length ≤ 26 * i) ?_ ?_ ?_ ?_
  · exact ⟨_, _, _, _, _, [], rfl, o3, b3, l3, f3, s3, (fun _ h => nomatch h), (fun _ h => nomatch h), Nat.zero_le _⟩
  · rintro i σ H' _ ⟨y5, y6, y7, y8, y9, bs, _, _, _, e, _⟩
    exact .inl (.inl e)
  · rintro i x σ H4 H5 hi ⟨y5, y6, y7, y8, y9, bs, rfl, o4, b4, l4, f4, s4, p4, g4, c4⟩ ⟨T, x1, x2, rfl, nT, rfl, e1, e2⟩
    rw [List.length_map] at hi
    cases e1
    obtain ⟨mine, hmine, rfl⟩ := at_map e2
    have sT : Same H4 (upd H4 T (.tup [.int (i : Nat), .str mine])) := same_upd nT
    refine ⟨T, _, rfl, .inl (.inl upd_same), rfl, _, _, rfl, _, _, rfl, rfl, ?_⟩
    refine ⟨_, rfl, i, rfl, by omega, by omega, ?_⟩
    refine for_it (walk_range (lo := 0) (n := (i : Int).toNat)) (fun j σ H' => ∃ (y7 y8 y9 : Option V) (bs : List B3), σ = [some (.ref b), some (.ref l), some (.int way), some (.ref fa), some (.ref sa), some (.int i), some (.str mine), y7, y8, y9] ∧ Oth b H H' ∧ IsBox H' b ∧ H' l = some (.lst (pool.map V.str)) ∧ H' fa = some (.lst (refs bs)) ∧ H' sa = some (.lst (sd.map V.int)) ∧ PairsAt H' bs ∧ OfPool pool (bs.map (·.2)) ∧ bs.length ≤ 26 * i + j) ?_ (fun _ _ _ _ _ => trivial) ?_ ?_
    · exact ⟨_, _, _, bs, rfl, o4.trans (Oth.of sT), b4.same sT, sT _ _ l4, sT _ _ f4, sT _ _ s4, p4.same sT, g4, by omega⟩
    · rintro j x σ H7 H6 hj ⟨y7, y8, y9, bs, rfl, o6, b6, l6, f6, s6, p6, g6, c6⟩ ⟨rfl, rfl⟩
      have hj2 : j < i := by omega
      obtain ⟨sj, hsj⟩ : ∃ v, sd[j]? = some v := ⟨sd[j]'(by omega), List.getElem?_eq_getElem _⟩
      obtain ⟨si, hsi⟩ : ∃ v, sd[i]? = some v := ⟨sd[i]'(by omega), List.getElem?_eq_getElem _⟩
      obtain ⟨pj, hpj⟩ : ∃ v, pool[j]? = some v := ⟨pool[j]'(by omega), List.getElem?_eq_getElem _⟩
      -- fine, by a draw
      refine ⟨fun v H8 => (∃ fb : Bool, v = .bl fb) ∧ Oth b H6 H8 ∧ IsBox H8 b, ?_, ?_⟩
      · refine ⟨.ref b, rfl, b, 4, rfl, b6, by decide, by decide, fun v1 h1 q1 c1 _ _ => ⟨rfl, .ref b, rfl, b, 2, rfl, c1, by decide, by decide, fun v2 h2 q2 c2 _ _ => ⟨rfl, .ref b, rfl, b, 4, rfl, c2, by decide, by decide, fun v3 h3 q3 c3 _ _ => ⟨_, _, rfl, rfl, (by show 3 ≤ sizeLine; decide), fun p hp => ?_⟩⟩⟩⟩
        have k0 : 0 ≤ way % 3 := Int.emod_nonneg _ (by decide)
        have k1 : way % 3 < 3 := Int.emod_lt_of_pos _ (by decide)
        have ox : Oth b H6 (upd h3 p (.lst [.bl (decide (V.int v1 = V.int 0)), .bl (decide (V.int v2 = V.int 0)), .bl (decide (v3 > 0))])) := ((q1.trans q2).trans q3).trans (Oth.of (same_upd hp))
        have bx : IsBox (upd h3 p (.lst [.bl (decide (V.int v1 = V.int 0)), .bl (decide (V.int v2 = V.int 0)), .bl (decide (v3 > 0))])) b := c3.same (same_upd hp)
        have km : way % 3 = ((0 : Nat) : Int) ∨ way % 3 = ((1 : Nat) : Int) ∨ way % 3 = ((2 : Nat) : Int) := by omega
        rcases km with km | km | km
        · exact ⟨_, rfl, _, _, rfl, rfl, (by show (0 : Int) < 3; decide), p, _, _, _, rfl, rfl, .inl (.inl upd_same), (by rw [km]; exact atI_nat (j := 0) rfl), ⟨_, rfl⟩, ox, bx⟩
        · exact ⟨_, rfl, _, _, rfl, rfl, (by show (0 : Int) < 3; decide), p, _, _, _, rfl, rfl, .inl (.inl upd_same), (by rw [km]; exact atI_nat (j := 1) rfl), ⟨_, rfl⟩, ox, bx⟩
        · exact ⟨_, rfl, _, _, rfl, rfl, (by show (0 : Int) < 3; decide), p, _, _, _, rfl, rfl, .inl (.inl upd_same), (by rw [km]; exact atI_nat (j := 2) rfl), ⟨_, rfl⟩, ox, bx⟩
      rintro v H8 ⟨⟨fb, rfl⟩, o8, b8⟩
      have l8 := o8 _ _ nlb l6
      have f8 := o8 _ _ nfb f6
      have s8 := o8 _ _ nsb s6
      have p8 := p6.oth o8 b6
      have o8' := o6.trans o8
      -- fine, by sides
      refine ⟨fun v H9 => (∃ fb : Bool, v = .bl fb) ∧ H9 = H8, ?_, ?_⟩
      · refine ⟨_, rfl, rfl, _, rfl, ite2 (fun _ => ?_) (fun _ => ?_)⟩
        · exact ⟨_, rfl, _, rfl, sa, _, _, _, rfl, rfl, .inl (.inl s8), atI_nat (ix_map hsi), _, rfl, _, rfl, sa, _, _, _, rfl, rfl, .inl (.inl s8), (by rw [Int.zero_add]; exact atI_nat (ix_map hsj)), rfl, ⟨_, rfl⟩, rfl⟩
        · exact ⟨_, rfl, ⟨_, rfl⟩, rfl⟩
      rintro v H9 ⟨⟨fb2, rfl⟩, rfl⟩
      refine ⟨_, rfl, fb2, rfl, ite2 (fun _ => ?_) (fun _ => ?_)⟩
      · refine ⟨.ref fa, rfl, .inl ⟨rfl, _, .inl (.inl f8)⟩, _, rfl, _, rfl, _, rfl, l, _, _, _, rfl, rfl, .inl (.inl l8), (by rw [Int.zero_add]; exact atI_nat (ix_map hpj)), _, _, rfl, _, rfl, _, rfl, _, rfl, l, _, _, _, rfl, rfl, .inl (.inl l8), (by rw [Int.zero_add]; exact atI_nat (ix_map hpj)), _, _, rfl, (by show 2 ≤ sizeLine; decide), fun t ht => ?_⟩
        have st : Same H9 (upd H9 t (.tup [.str (lmin mine pj), .str (lmax mine pj)])) := same_upd ht
        have f9 := st _ _ f8
        have ntf : t ≠ fa := (ne_of_none f8 ht).symm
        refine ⟨fa, _, _, rfl, rfl, f9, ?_, ?_⟩
        · show (bs.map _).length < _
          rw [List.length_map]
          exact small1000 (by omega)
        · refine ⟨_, _, _, bs ++ [(t, lmin mine pj, lmax mine pj)], rfl, fun a o na e => ?_, ?_, ?_, ?_, ?_, ?_, ?_, ?_⟩
          · rw [upd_ne (ne_of_none e nf)]
            exact st _ _ (o8' _ _ na e)
          · obtain ⟨i1, i2, i3, e⟩ := b8
            exact ⟨i1, i2, i3, (upd_ne (Ne.symm nfb)).trans (st _ _ e)⟩
          · exact (upd_ne nlf).trans (st _ _ l8)
          · rw [upd_same]
            show _ = some (HO.lst ((bs ++ [_]).map _))
            rw [List.map_append]
            rfl
          · exact (upd_ne (Ne.symm nsf)).trans (st _ _ s8)
          · intro c hc
            rcases List.mem_append.mp hc with z | z
            · have e := st _ _ (p8 c z)
              rw [upd_ne (ne_of e f9 (fun z => nomatch z))]
              exact e
            · have ec : c = (t, lmin mine pj, lmax mine pj) := by simpa using z
              rw [ec]
              exact (upd_ne ntf).trans upd_same
          · rw [List.map_append]
            intro p hp
            rcases List.mem_append.mp hp with z | z
            · exact g6 p z
            · have ep : p = (lmin mine pj, lmax mine pj) := by simpa using z
              refine ⟨mine, pj, List.mem_of_getElem? hmine, List.mem_of_getElem? hpj, fun z => ?_, ep⟩
              rw [← z] at hpj
              have := nd_ix hnd hmine hpj
              omega
          · rw [List.length_append]
            show bs.length + 1 ≤ _
            omega
      · exact ⟨_, _, _, bs, rfl, o8', b8, l8, f8, s8, p8, g6, by omega⟩
    · rintro σ H6 ⟨y7, y8, y9, bs, rfl, o6, b6, l6, f6, s6, p6, g6, c6⟩
      exact ⟨_, _, _, _, _, bs, rfl, o6, b6, l6, f6, s6, p6, g6, by omega⟩
  · rintro σ H4 ⟨y5, y6, y7, y8, y9, bs, rfl, o4, b4, l4, f4, s4, p4, g4, c4⟩
    rw [List.length_map] at c4
    refine ⟨_, rfl, fa, bs, rfl, .inl (.inl f4), p4, fun p hp => ?_⟩
    have s5 : Same H4 (upd H4 p (.lst ((bs.mergeSort (PySem.W.dataLe false encP)).map fun b => V.ref b.1))) := same_upd hp
    refine ⟨p, _, rfl, .inl ⟨.inl (.inl upd_same), fun a ha => ?_⟩⟩
    have s6 := s5.trans (same_upd (o := .tup ((bs.mergeSort (PySem.W.dataLe false encP)).map fun b => V.ref b.1)) ha)
    have nab : a ≠ b := (b4.same s5).ne_none ha
    have pm := List.mergeSort_perm bs (PySem.W.dataLe false encP)
    refine q a (bs.mergeSort (PySem.W.dataLe false encP)) _ (o4.trans (Oth.of s6)) (b4.same s6) (o4.free nab (s5.free ha)) upd_same (fun c hc => s6 _ _ (p4 c (pm.mem_iff.mp hc))) (fun p' hp' => g4 p' ((pm.map _).mem_iff.mp hp')) ?_ ⟨bs, rfl⟩
    rw [pm.length_eq]
    omega
/-! ### _law_are -/
abbrev sAre : Stmt := topS 25
theorem scAre : FnScope ["_law_pals_here", "_law_mine", "_law_its"] ["_law_pals_here", "_law_mine", "_law_its"] (defScope sAre) := ⟨rfl, rfl, rfl, by decide +kernel, rfl, by decide +kernel, by decide +kernel⟩
theorem ok_are {f : Addr} {fd : FuncData} (B : Blt mg) (F : Fun K "_law_are" "_law_are" sAre f fd) : FnOk P w K mg base CX0 1 f fd ["_law_pals_here", "_law_mine", "_law_its"] spAre := by
  refine fok F scAre (fun vs H Q E h => ?_) (fun cdv A outer s H vs Q E hr h => ?_)
  · obtain ⟨a, ps, x, y, rfl, _⟩ := h
    rfl
  obtain ⟨a, ps, x, y, rfl, ha, ho, gx, gy, q⟩ := h
  refine ⟨_, pss_one (ps_ret (pe_cmpR (op_inT (u65 hr)) (pe_tup (pa_cons (pe_callB (call_minS rfl) (by rfl) B.min (by decide +kernel) (pa_cons (pv 1) (pa_cons (pv 2) pa_nil))) (pa_cons (pe_callB (call_maxS rfl) (by rfl) B.max (by decide +kernel) (pa_cons (pv 1) (pa_cons (pv 2) pa_nil))) pa_nil))) (pv 0) (by rfl))), ?_⟩
  refine ⟨_, rfl, _, rfl, _, _, rfl, _, rfl, _, rfl, _, _, rfl, (by show 2 ≤ sizeLine; decide), fun t ht => ?_⟩
  have st : Same H (upd H t (.tup [.str (lmin x y), .str (lmax x y)])) := same_upd ht
  refine ⟨_, rfl, _, _, dp_tuple (xs := [lmin x y, lmax x y]) upd_same, dp_pals (ha.same st), sh_pair (p := (lmin x y, lmax x y)) ⟨lmin_good gx gy, lmax_good gx gy⟩, sh_pals ho.good, ?_⟩
  have e := any_pair ps (lmin x y, lmax x y)
  rw [frd_pair ho] at e
  have e2 : ((ps.map encQ).any fun z => PyData.eqv z (.tuple ([lmin x y, lmax x y].map .str))) = frd ps x y := e
  rw [e2]
  exact q _ st
/-! ### _law_come -/
abbrev sCome : Stmt := topS 26
abbrev nCome : List Str := ["_law_pals_here", "_law_stand", "_law_name", "_law_spot", "_law_k", "_law_its", "_law_known"]
theorem scCome : FnScope nCome ["_law_pals_here", "_law_stand", "_law_name"] (defScope sCome) := ⟨rfl, rfl, rfl, by decide +kernel, rfl, by decide +kernel, by decide +kernel⟩
theorem ok_come {f : Addr} {fd : FuncData} (B : Blt mg) (CA : Cal P w K mg base 1 "_law_are" ["_law_pals_here", "_law_mine", "_law_its"] spAre) (F : Fun K "_law_come" "_law_come" sCome f fd) : FnOk P w K mg base CX0 2 f fd ["_law_pals_here", "_law_stand", "_law_name"] spCome := by
  refine fok F scCome (fun vs H Q E h => ?_) (fun cdv A outer s H vs Q E hr h => ?_)
  · obtain ⟨a, t, ps, stand, x, rfl, _⟩ := h
    rfl
  obtain ⟨a, t, ps, stand, x, rfl, ha, ho, ht, gs, gx, hn, q⟩ := h
  refine ⟨_, pss_cons (ps_set (i := 3) scCome.nd rfl (.inl rfl) (pe_callB call_len_seq (by rfl) B.len PySem.boot_len (pa_cons (pv 1) pa_nil)))
    (pss_cons (ps_for PassesOwn.never rfl (pi_enumT (by rfl) B.enumerate (pa_cons (pv 1) pa_nil)) (pg_tup rfl (pgs_cons (pg_name (i := 4) scCome.nd rfl (.inl rfl)) (pgs_cons (pg_name (i := 5) scCome.nd rfl (.inl rfl)) pgs_nil)))
      (pss_one (ps_if (pt_val (pe_cal CA hr (pa_cons (pv 0) (pa_cons (pv 2) (pa_cons (pv 5) pa_nil))))) (pss_one (ps_set (i := 3) scCome.nd rfl (.inl rfl) (pe_op op_add (pv 4) pe_int))) pss_nil)))
    (pss_cons (ps_setLc (i := 6) (own := [("_law_its", 5)]) (g := gName 5) (tt := tB (tCall spAre [] E0 (tCons (tVar 0) (tCons (tVar 2) (tCons (tVar 5) tNil))))) rfl scCome.nd rfl rfl (sw_true rfl rfl rfl (by decide +kernel)) (pi_tup (pv 1)) (blkOk_by (N := nCome) (sc := defScope sCome) (by decide +kernel)) (fun _ _ _ _ _ => pg_name (i := 5) scCome.nd rfl (Or.inl rfl))
        (fun _ _ _ _ _ => pts_one (pt_val (pe_cal CA hr (pa_cons (pv 0) (pa_cons (pv 2) (pa_cons (pv 5) pa_nil)))))) (fun _ _ _ _ _ => pv 5))
    (pss_cons (ps_set (i := 3) scCome.nd rfl (.inl rfl) (pe_mid (pe_ifExp (pt_cmpR (op_neNil hr.units) (pv 6) (pe_lst pa_nil) (nomark _)) (pv 3) (pe_callB call_len_seq (by rfl) B.len PySem.boot_len (pa_cons (pv 1) pa_nil)))))
    (pss_one (ps_ret (pe_op op_catM (pe_op op_catM (pe_slice sl_tupM (pv 1) po_none (po_some (pv 3))) (pe_tupF (pa_cons (pv 2) pa_nil))) (pe_slice sl_tupM (pv 1) (po_some (pv 3)) po_none))))))), ?_⟩
  -- spot = len(stand)
  refine ⟨.ref t, rfl, t, _, rfl, .inr ht.sq, ?_⟩
  rw [List.length_map]
  -- the loop
  refine ⟨.ref t, rfl, t, _, rfl, ht.sq, ?_⟩
  refine for_it (walk_enumT (xs := stand.map V.str)) (fun i σ H' => ∃ (y4 y5 y6 : Option V), σ = [some (.ref a), some (.ref t), some (.str x), some (.int (match lastP (frd ps x) (stand.take i) with | some k => ((k + 1 : Nat) : Int) | none => (stand.length : Int))), y4, y5, y6] ∧ Same H H') ?_ ?_ ?_ ?_
  · exact ⟨_, _, _, rfl, Same.refl H⟩
  · rintro i σ H' _ ⟨y4, y5, y6, _, s1⟩
    exact (ht.same s1).sq
  · rintro i v σ H1 H2 hi ⟨y4, y5, y6, rfl, s1⟩ ⟨T, x1, x2, rfl, nT, rfl, e1, e2⟩
    cases e1
    obtain ⟨its, hits, rfl⟩ := at_map e2
    have s2 := s1.trans (same_upd (o := .tup [.int (i : Nat), .str its]) nT)
    refine ⟨T, _, rfl, .inl (.inl upd_same), rfl, _, _, rfl, _, _, rfl, rfl, ?_⟩
    refine ⟨_, rfl, _, rfl, _, rfl, a, ps, x, its, rfl, ha.same s2, ho, gx, gs.at_ hits, fun H3 s3 => ⟨_, rfl, ?_⟩⟩
    have lt := lastP_take (frd ps x) hits
    refine ite2 (fun c => ?_) (fun c => ?_)
    · rw [if_pos c] at lt
      refine ⟨_, rfl, _, _, rfl, rfl, some (.int (i : Nat)), some (.str its), y6, ?_, s2.trans s3⟩
      rw [lt]
      rfl
    · rw [if_neg c] at lt
      refine ⟨some (.int (i : Nat)), some (.str its), y6, ?_, s2.trans s3⟩
      rw [lt]
      rfl
  rintro σ H1 ⟨y4, y5, y6, rfl, s1⟩
  rw [List.length_map, List.take_of_length_le (Nat.le_refl _)]
  -- known
  refine ⟨.ref t, rfl, t, rfl, ⟨_, (ht.same s1).sq⟩, fun D hD => ?_⟩
  have nD : H D = none := s1.free hD
  refine lc_it (walk_tup (xs := stand.map V.str)) (fun i H' => Same H H' ∧ H' D = some (.lst (((stand.take i).filter (frd ps x)).map V.str))) ?_ ?_ ?_ ?_
  · exact ⟨s1.trans (same_upd hD), upd_same⟩
  · rintro i H' _ ⟨s2, _⟩
    exact (ht.same s2).sq
  · rintro i v H3 H2 hi ⟨s2, d2⟩ ⟨rfl, e2⟩
    obtain ⟨its, hits, rfl⟩ := at_map e2
    rw [List.length_map] at hi
    have ft : (stand.take (i + 1)).filter (frd ps x) = (stand.take i).filter (frd ps x) ++ if frd ps x its = true then [its] else [] := by
      rw [List.take_add_one, hits, List.filter_append]
      show _ ++ List.filter (frd ps x) [its] = _
      rw [List.filter_cons, List.filter_nil]
    refine ⟨rfl, _, rfl, _, rfl, _, rfl, a, ps, x, its, rfl, ha.same s2, ho, gx, gs.at_ hits, fun H4 s4 => ⟨_, rfl, ?_⟩⟩
    refine ite2 (fun c => ?_) (fun c => ?_)
    · rw [if_pos c] at ft
      refine ⟨_, rfl, _, s4 _ _ d2, ?_, fun b o e => ?_, ?_⟩
      · rw [List.length_map]
        exact small1000 (Nat.le_trans (List.length_filter_le _ _) (by rw [List.length_take]; omega))
      · rw [upd_ne (ne_of_none e nD)]
        exact s4 _ _ (s2 _ _ e)
      · rw [upd_same, ft, List.map_append]
        rfl
    · rw [if_neg c, List.append_nil] at ft
      exact ⟨s2.trans s4, by rw [ft]; exact s4 _ _ d2⟩
  rintro H2 ⟨s2, d2⟩
  rw [List.length_map, List.take_of_length_le (Nat.le_refl _)] at d2
  have t2 := ht.same s2
  -- spot
  refine ⟨fun v H' => v = .int (spotOf ps stand x : Nat) ∧ Same H H', ?_, ?_⟩
  · refine ⟨_, rfl, (by show 0 ≤ sizeLine; decide), fun p hp => ⟨D, p, _, rfl, rfl, same_upd hp _ _ d2, upd_same, gs.filter, _, rfl, ?_⟩⟩
    have s3 := s2.trans (same_upd (o := .lst []) hp)
    unfold spotOf
    refine ite2 (fun c => ?_) (fun c => ?_)
    · refine ⟨_, rfl, ?_, s3⟩
      cases e : lastP (frd ps x) stand with
      | none =>
        exact absurd (lastP_nil.mp e) (of_decide_eq_false (by simpa using c))
      | some k => rfl
    · refine ⟨.ref t, rfl, t, _, rfl, .inr (t2.same (same_upd hp)).sq, ?_, s3⟩
      rw [List.length_map]
      cases e : lastP (frd ps x) stand with
      | none => rfl
      | some k =>
        have z : ¬ stand.filter (frd ps x) = [] := fun z => by rw [lastP_nil.mpr z] at e; cases e
        rw [decide_eq_false z] at c
        first | exact absurd rfl c | exact c.elim rfl | skip
  rintro v H3 ⟨rfl, s3⟩
  have t3 := ht.same s3
  refine ⟨.ref t, rfl, _, rfl, _, rfl, t, _, rfl, t3, fun t1 H4 s4 e4 => ?_⟩
  rw [cutV_map, cutL_to] at e4
  refine ⟨_, rfl, (by show 1 ≤ sizeLine; decide), fun p Hp sp hp tp => ?_⟩
  refine ⟨t1, p, _, _, rfl, rfl, e4.same sp, tp, ?_, fun t5 H5 s5 e5 => ?_⟩
  · rw [List.length_map, List.length_take]
    exact small_le (by show _ + 1 ≤ 1000; omega)
  have s35 := (s4.trans sp).trans s5
  refine ⟨.ref t, rfl, _, rfl, _, rfl, t, _, rfl, t3.same s35, fun t6 H6 s6 e6 => ?_⟩
  rw [cutV_map, cutL_from] at e6
  refine ⟨t5, t6, _, _, rfl, rfl, e5.same s6, e6, ?_, fun t7 H7 s7 e7 => ?_⟩
  · rw [List.length_append, List.length_map, List.length_map, List.length_take, List.length_drop]
    exact small_le (by show _ + 1 + _ ≤ 1000; omega)
  refine q t7 H7 ((s3.trans s35).trans (s6.trans s7)) ?_
  unfold comeTo
  rw [List.map_append, List.map_append]
  exact e7
/-! ### _law_stand_of, _law_strewn, _law_thinned, _law_fine_stand, _law_any_stand -/
abbrev sStandOf : Stmt := topS 27
abbrev nStandOf : List Str := ["_law_pals_here", "_law_some", "_law_stand", "_law_name"]
theorem scStandOf : FnScope nStandOf ["_law_pals_here", "_law_some"] (defScope sStandOf) := ⟨rfl, rfl, rfl, by decide +kernel, rfl, by decide +kernel, by decide +kernel⟩
theorem ok_standOf {f : Addr} {fd : FuncData} (CC : Cal P w K mg base 2 "_law_come" ["_law_pals_here", "_law_stand", "_law_name"] spCome) (F : Fun K "_law_stand_of" "_law_stand_of" sStandOf f fd) : FnOk P w K mg base CX0 3 f fd ["_law_pals_here", "_law_some"] spStandOf := by
  refine fok F scStandOf (fun vs H Q E h => ?_) (fun cdv A outer s H vs Q E hr h => ?_)
  · obtain ⟨a, l, ps, so, rfl, _⟩ := h
    rfl
  obtain ⟨a, l, ps, so, rfl, ha, ho, hl, gs, hn, q⟩ := h
  refine ⟨_, pss_cons (ps_set (i := 2) scStandOf.nd rfl (.inl rfl) (pe_tupF pa_nil))
    (pss_cons (ps_for PassesOwn.never rfl (pi_list (pv 1)) (pg_name (i := 3) scStandOf.nd rfl (.inl rfl))
      (pss_one (ps_set (i := 2) scStandOf.nd rfl (.inl rfl) (pe_cal CC hr (pa_cons (pv 0) (pa_cons (pv 2) (pa_cons (pv 3) pa_nil)))))))
    (pss_one (ps_ret (pv 2)))), ?_⟩
  refine ⟨(by show 0 ≤ sizeLine; decide), fun p Hp sp hp tp => ?_⟩
  refine ⟨.ref l, rfl, l, rfl, ⟨_, .inl (.inl (sp _ _ hl))⟩, ?_⟩
  refine for_it (walk_list (xs := so.map V.str)) (fun i σ H' => ∃ (t : Addr) (y3 : Option V), σ = [some (.ref a), some (.ref l), some (.ref t), y3] ∧ Same H H' ∧ TupAt H' t ((standOf ps (so.take i)).map V.str)) ?_ ?_ ?_ ?_
  · exact ⟨p, _, rfl, sp, tp⟩
  · rintro i σ H' _ ⟨t, y3, _, s1, _⟩
    exact .inl (.inl (s1 _ _ hl))
  · rintro i v σ H2 H1 hi ⟨t, y3, rfl, s1, e1⟩ ⟨rfl, e2⟩
    rw [List.length_map] at hi
    obtain ⟨x, hx, rfl⟩ := at_map e2
    have pm := stand_perm ps (so.take i)
    have gst : Goods (standOf ps (so.take i)) := Goods.perm (fun y hy => gs y (List.mem_of_mem_take hy)) pm
    refine ⟨_, rfl, _, rfl, _, rfl, a, t, ps, _, x, rfl, ha.same s1, ho, e1, gst, gs.at_ hx, ?_, fun t' H3 s3 e3 => ?_⟩
    · rw [pm.length_eq, List.length_take]
      omega
    · refine ⟨t', _, rfl, s1.trans s3, ?_⟩
      rw [List.take_add_one, hx]
      show TupAt H3 t' ((standOf ps (so.take i ++ [x])).map V.str)
      rw [standOf_app]
      exact e3
  · rintro σ H1 ⟨t, y3, rfl, s1, e1⟩
    rw [List.length_map, List.take_of_length_le (Nat.le_refl _)] at e1
    exact ⟨.ref t, rfl, q t H1 s1 e1⟩
abbrev sStrewn : Stmt := topS 28
abbrev nStrewn : List Str := ["_law_box_here", "_law_some", "_law_found", "_law_name"]
theorem scStrewn : FnScope nStrewn ["_law_box_here", "_law_some"] (defScope sStrewn) := ⟨rfl, rfl, rfl, by decide +kernel, rfl, by decide +kernel, by decide +kernel⟩
theorem ok_strewn {f : Addr} {fd : FuncData} (B : Blt mg) (CT : Cal P w K mg base 1 "_law_take" ["_law_box_here", "_law_many"] spTake) (F : Fun K "_law_strewn" "_law_strewn" sStrewn f fd) : FnOk P w K mg base CX0 2 f fd ["_law_box_here", "_law_some"] spStrewn := by
  refine fok F scStrewn (fun vs H Q E h => ?_) (fun cdv A outer s H vs Q E hr h => ?_)
  · obtain ⟨b, l, pool, rfl, _⟩ := h
    rfl
  obtain ⟨b, l, pool, rfl, hb, hl, hn, q⟩ := h
  have nlb : l ≠ b := hl.elim (fun e => e.ne hb) (fun e => hb.ne_strs e)
  refine ⟨_, pss_cons (ps_set (i := 2) scStrewn.nd rfl (.inl rfl) (pe_lst pa_nil))
    (pss_cons (ps_for PassesOwn.never rfl (pi_or2 (pi_list (pv 1)) (pi_tup (pv 1))) (pg_name (i := 3) scStrewn.nd rfl (.inl rfl))
      (pss_one (ps_expr (pe_bm PySem.F.plainAttrs_list PySem.F.slot_list_insert PySem.F.type_list_insert mt_insert (pv 2) (pa_cons (pe_cal CT hr (pa_cons (pv 0) (pa_cons (pe_op op_add (pe_callB call_len_seq (by rfl) B.len PySem.boot_len (pa_cons (pv 2) pa_nil)) pe_int) pa_nil))) (pa_cons (pv 3) pa_nil))))))
    (pss_one (ps_ret (pv 2)))), ?_⟩
  refine ⟨(by show 0 ≤ sizeLine; decide), fun fa hfa => ?_⟩
  have s0 : Same H (upd H fa (.lst [])) := same_upd hfa
  have nfb : fa ≠ b := hb.ne_none hfa
  have nlf : l ≠ fa := hl.elim (fun e => e.ne_new hfa) (fun e => ne_of_none e hfa)
  have turn : ∀ (i : Nat) (x : Str) (σ : L2.St) (H1 : Hp), pool[i]? = some x → (∃ (order : List Str) (y3 : Option V), σ = [some (.ref b), some (.ref l), some (.ref fa), y3] ∧ Oth b H H1 ∧ IsBox H1 b ∧ RowAt H1 l pool ∧ H1 fa = some (.lst (order.map V.str)) ∧ order.Perm (pool.take i)) → ∀ (D : Ends), D.nx = (fun σ H1 => ∃ (order : List Str) (y3 : Option V), σ = [some (.ref b), some (.ref l), some (.ref fa), y3] ∧ Oth b H H1 ∧ IsBox H1 b ∧ RowAt H1 l pool ∧ H1 fa = some (.lst (order.map V.str)) ∧ order.Perm (pool.take (i + 1))) →
      (tDrop (tBM K "list" (fun x vs H Q => ∃ l xs i y, x = .ref l ∧ vs = [.int i, y] ∧ H l = some (.lst xs) ∧ xs.length < sizeLine ∧ 0 ≤ i ∧ i < 2 ^ 63 ∧ Q .non (upd H l (.lst (xs.take i.toNat ++ [y] ++ xs.drop i.toNat)))) (tVar 2) (tCons (tCall spTake [] E0 (tCons (tVar 0) (tCons (tOp (rI0 fun i j => .int (i + j)) (tCB (fun xs H Q => ∃ p ys, xs = [.ref p] ∧ (SqL K H p ys ∨ SqT K H p ys) ∧ Q (.int ys.length) H) (tCons (tVar 2) tNil)) (tC (.int 1))) tNil))) (tCons (tVar 3) tNil)))) D (σ.set 3 (some (.str x))) H1 := by
    rintro i x σ H1 hx ⟨order, y3, rfl, o1, b1, l1, f1, p1⟩ D hD
    have hi : i < pool.length := (List.getElem?_eq_some_iff.mp hx).1
    have ol : order.length = i := by
      rw [p1.length_eq, List.length_take]
      omega
    have L1 : SqL K H1 fa (order.map V.str) := .inl (.inl f1)
    refine ⟨.ref fa, rfl, .inl ⟨rfl, _, L1⟩, .ref b, rfl, .ref fa, rfl, fa, _, rfl, .inl L1, _, _, rfl, rfl, b, _, rfl, b1, by omega, ?_, fun v H2 o2 b2 v0 v1 => ?_⟩
    · rw [List.length_map]
      omega
    have f2 : H2 fa = some (.lst (order.map V.str)) := o2 _ _ nfb f1
    refine ⟨_, rfl, fa, _, v, _, rfl, rfl, f2, ?_, v0, ?_, ?_⟩
    · rw [List.length_map]
      exact small1000 (by omega)
    · rw [List.length_map] at v1
      omega
    rw [hD]
    have pm := ins_perm order v.toNat x
    refine ⟨order.take v.toNat ++ [x] ++ order.drop v.toNat, _, rfl, fun a o na e => ?_, ?_, ?_, ?_, ?_⟩
    · rw [upd_ne (ne_of_none e hfa)]
      exact o2 _ _ na (o1 _ _ na e)
    · obtain ⟨i1, i2, i3, e⟩ := b2
      exact ⟨i1, i2, i3, (upd_ne (Ne.symm nfb)).trans e⟩
    · exact l1.elim (fun e => .inl ((e.oth o2 b1).upd_ f2)) (fun e => .inr ((upd_ne nlf).trans (o2 _ _ nlb e)))
    · rw [upd_same, ins_map]
    · refine pm.trans ((p1.cons x).trans ?_)
      rw [List.take_add_one, hx]
      exact (List.perm_append_singleton x (pool.take i)).symm
  have fin : ∀ (σ : L2.St) (H1 : Hp), (∃ (order : List Str) (y3 : Option V), σ = [some (.ref b), some (.ref l), some (.ref fa), y3] ∧ Oth b H H1 ∧ IsBox H1 b ∧ RowAt H1 l pool ∧ H1 fa = some (.lst (order.map V.str)) ∧ order.Perm (pool.take (pool.map V.str).length)) → ∃ v, σ[2]? = some (some v) ∧ Q v H1 := by
    rintro σ H1 ⟨order, y3, rfl, o1, b1, l1, f1, p1⟩
    rw [List.length_map, List.take_of_length_le (Nat.le_refl _)] at p1
    exact ⟨.ref fa, rfl, q fa order H1 o1 b1 hfa f1 p1⟩
  rcases hl with e | e
  · refine .inr ⟨.ref l, rfl, l, rfl, ⟨_, (e.same s0).sq⟩, ?_⟩
    refine for_it (walk_tup (xs := pool.map V.str)) (fun i σ H1 => ∃ (order : List Str) (y3 : Option V), σ = [some (.ref b), some (.ref l), some (.ref fa), y3] ∧ Oth b H H1 ∧ IsBox H1 b ∧ RowAt H1 l pool ∧ H1 fa = some (.lst (order.map V.str)) ∧ order.Perm (pool.take i)) ?_ ?_ ?_ ?_
    · exact ⟨[], _, rfl, Oth.of s0, hb.same s0, .inl (e.same s0), upd_same, List.Perm.refl _⟩
    · rintro i σ H1 _ ⟨order, y3, _, o1, _⟩
      exact (e.oth o1 hb).sq
    · rintro i v σ H2 H1 hi pv ⟨rfl, e2⟩
      obtain ⟨x, hx, rfl⟩ := at_map e2
      exact turn i x σ _ hx pv _ rfl
    · exact fin
  · refine .inl ⟨.ref l, rfl, l, rfl, ⟨_, .inl (.inl (s0 _ _ e))⟩, ?_⟩
    refine for_it (walk_list (xs := pool.map V.str)) (fun i σ H1 => ∃ (order : List Str) (y3 : Option V), σ = [some (.ref b), some (.ref l), some (.ref fa), y3] ∧ Oth b H H1 ∧ IsBox H1 b ∧ RowAt H1 l pool ∧ H1 fa = some (.lst (order.map V.str)) ∧ order.Perm (pool.take i)) ?_ ?_ ?_ ?_
    · exact ⟨[], _, rfl, Oth.of s0, hb.same s0, .inr (s0 _ _ e), upd_same, List.Perm.refl _⟩
    · rintro i σ H1 _ ⟨order, y3, _, o1, _⟩
      exact .inl (.inl (o1 _ _ nlb e))
    · rintro i v σ H2 H1 hi pv ⟨rfl, e2⟩
      obtain ⟨x, hx, rfl⟩ := at_map e2
      exact turn i x σ _ hx pv _ rfl
    · exact fin
abbrev sThinned : Stmt := topS 30
abbrev nThinned : List Str := ["_law_some", "_law_name", "_law_its"]
theorem scThinned : FnScope nThinned ["_law_some", "_law_name"] (defScope sThinned) := ⟨rfl, rfl, rfl, by decide +kernel, rfl, by decide +kernel, by decide +kernel⟩
theorem ok_thinned {f : Addr} {fd : FuncData} (B : Blt mg) (F : Fun K "_law_thinned" "_law_thinned" sThinned f fd) : FnOk P w K mg base CX0 1 f fd ["_law_some", "_law_name"] spThinned := by
  refine fok F scThinned (fun vs H Q E h => ?_) (fun cdv A outer s H vs Q E hr h => ?_)
  · obtain ⟨t, stand, x, rfl, _⟩ := h
    rfl
  obtain ⟨t, stand, x, rfl, ht, hn, q⟩ := h
  refine ⟨_, pss_one (ps_ret (pe_callTy call_tupleF (by rfl) B.tuple (by decide +kernel) (pa_cons (pe_lc (own := [("_law_its", 2)]) (g := gName 2) (tt := tTest (tOp rNe (tVar 2) (tVar 1))) rfl scThinned.nd (pi_tup (pv 0)) (blkOk_by (N := nThinned) (sc := defScope sThinned) (by decide +kernel)) (fun _ _ _ _ _ => pg_name (i := 2) scThinned.nd rfl (Or.inl rfl))
        (fun _ _ _ _ _ => pts_one (pt_cmpR op_ne (pv 2) (pv 1) (nomark _))) (fun _ _ _ _ _ => pv 2)) pa_nil))), ?_⟩
  refine ⟨.ref t, rfl, t, rfl, ⟨_, ht.sq⟩, fun D hD => ?_⟩
  refine lc_it (walk_tup (xs := stand.map V.str)) (fun i H' => Same H H' ∧ H' D = some (.lst (((stand.take i).filter fun y => !decide (y = x)).map V.str))) ?_ ?_ ?_ ?_
  · exact ⟨same_upd hD, upd_same⟩
  · rintro i H' _ ⟨s2, _⟩
    exact (ht.same s2).sq
  · rintro i v H3 H2 hi ⟨s2, d2⟩ ⟨rfl, e2⟩
    obtain ⟨its, hits, rfl⟩ := at_map e2
    rw [List.length_map] at hi
    have ft : ((stand.take (i + 1)).filter fun y => !decide (y = x)) = ((stand.take i).filter fun y => !decide (y = x)) ++ if (!decide (its = x)) = true then [its] else [] := by
      rw [List.take_add_one, hits, List.filter_append]
      show _ ++ List.filter (fun y => !decide (y = x)) [its] = _
      rw [List.filter_cons, List.filter_nil]
    have ed : decide (V.str its = V.str x) = decide (its = x) := decide_eq_decide.mpr ⟨fun z => V.str.inj z, fun z => by rw [z]⟩
    refine ⟨rfl, _, rfl, _, rfl, rfl, _, rfl, ?_⟩
    rw [ed]
    refine ite2 (fun c => ?_) (fun c => ?_)
    · rw [if_pos c] at ft
      refine ⟨_, rfl, _, d2, ?_, fun b o e => ?_, ?_⟩
      · rw [List.length_map]
        exact small1000 (Nat.le_trans (List.length_filter_le _ _) (by rw [List.length_take]; omega))
      · rw [upd_ne (ne_of_none e hD)]
        exact s2 _ _ e
      · rw [upd_same, ft, List.map_append]
        rfl
    · rw [if_neg c, List.append_nil] at ft
      exact ⟨s2, by rw [ft]; exact d2⟩
  · rintro H2 ⟨s2, d2⟩
    rw [List.length_map, List.take_of_length_le (Nat.le_refl _)] at d2
    exact ⟨D, _, rfl, .inl ⟨.inl (.inl d2), fun a Ha sa ha ta => q a Ha (s2.trans sa) ta⟩⟩
abbrev sFine : Stmt := topS 31
abbrev nFine : List Str := ["_law_box_here", "_law_pals_here", "_law_pool"]
theorem scFine : FnScope nFine nFine (defScope sFine) := ⟨rfl, rfl, rfl, by decide +kernel, rfl, by decide +kernel, by decide +kernel⟩
theorem ok_fine {f : Addr} {fd : FuncData} (CS : Cal P w K mg base 3 "_law_stand_of" ["_law_pals_here", "_law_some"] spStandOf) (CW : Cal P w K mg base 2 "_law_strewn" ["_law_box_here", "_law_some"] spStrewn) (F : Fun K "_law_fine_stand" "_law_fine_stand" sFine f fd) : FnOk P w K mg base CX0 4 f fd nFine spFine := by
  refine fok F scFine (fun vs H Q E h => ?_) (fun cdv A outer s H vs Q E hr h => ?_)
  · obtain ⟨b, a, l, ps, pool, rfl, _⟩ := h
    rfl
  obtain ⟨b, a, l, ps, pool, rfl, hb, ha, ho, hl, gs, hn, q⟩ := h
  refine ⟨_, pss_one (ps_ret (pe_cal CS hr (pa_cons (pv 1) (pa_cons (pe_cal CW hr (pa_cons (pv 0) (pa_cons (pv 2) pa_nil))) pa_nil)))), ?_⟩
  refine ⟨_, rfl, _, rfl, _, rfl, b, l, pool, rfl, hb, .inr hl, hn, fun p order H1 o1 b1 np e1 pm => ?_⟩
  refine ⟨a, p, ps, order, rfl, ha.oth o1 hb, ho, e1, gs.perm pm, (by rw [pm.length_eq]; exact hn), fun t H2 s2 e2 => ?_⟩
  exact q t order H2 (o1.trans (Oth.of s2)) (b1.same s2) e2 pm
abbrev sAny : Stmt := topS 32
abbrev nAny : List Str := ["_law_box_here", "_law_pals_here", "_law_pool", "_law_stand", "_law_way", "_law_name", "_law_left", "_law_spot"]
theorem scAny : FnScope nAny nFine (defScope sAny) := ⟨rfl, rfl, rfl, by decide +kernel, rfl, by decide +kernel, by decide +kernel⟩
theorem ok_any {f : Addr} {fd : FuncData} (B : Blt mg) (CT : Cal P w K mg base 1 "_law_take" ["_law_box_here", "_law_many"] spTake) (CF : Cal P w K mg base 4 "_law_fine_stand" nFine spFine) (CW : Cal P w K mg base 2 "_law_strewn" ["_law_box_here", "_law_some"] spStrewn) (CH : Cal P w K mg base 1 "_law_thinned" ["_law_some", "_law_name"] spThinned) (F : Fun K "_law_any_stand" "_law_any_stand" sAny f fd) : FnOk P w K mg base CX0 5 f fd nFine spAny := by
  refine fok F scAny (fun vs H Q E h => ?_) (fun cdv A outer s H vs Q E hr h => ?_)
  · obtain ⟨b, a, l, ps, pool, rfl, _⟩ := h
    rfl
  obtain ⟨b, a, l, ps, pool, rfl, hb, ha, ho, hl, gs, hd, hn, q⟩ := h
  have h1 : Room 1 _ := hr.mono (by decide)
  have h2 : Room 2 _ := hr.mono (by decide)
  refine ⟨_, pss_cons (ps_par (i := 3) (j := 4) (by rfl) scAny.nd rfl rfl (by decide) rfl rfl (pa_cons (pe_cal CF hr (pa_cons (pv 0) (pa_cons (pv 1) (pa_cons (pv 2) pa_nil)))) (pa_cons (pe_cal CT h1 (pa_cons (pv 0) (pa_cons pe_int pa_nil))) pa_nil)) (by rfl))
    (pss_cons (ps_if (pt_cmpR op_eq (pv 4) pe_int (nomark _)) (pss_one (ps_ret (pe_callTy call_tupleF (by rfl) B.tuple (by decide +kernel) (pa_cons (pe_cal CW h2 (pa_cons (pv 0) (pa_cons (pv 2) pa_nil))) pa_nil)))) pss_nil)
    (pss_cons (ps_if (PW.pt (pw_and (pt_cmpR op_lt (pv 4) pe_int (nomark _)) (pw_and1 (pt_cmpR op_gt (pe_callB call_len_seq (by rfl) B.len PySem.boot_len (pa_cons (pv 3) pa_nil)) pe_int (nomark _)))))
      (pss_cons (ps_set (i := 5) scAny.nd rfl (.inl rfl) (pe_ix ix_tup (pv 3) (pe_cal CT h1 (pa_cons (pv 0) (pa_cons (pe_callB call_len_seq (by rfl) B.len PySem.boot_len (pa_cons (pv 3) pa_nil)) pa_nil))) (fun _ _ => rfl)))
      (pss_cons (ps_set (i := 6) scAny.nd rfl (.inl rfl) (pe_cal CH h1 (pa_cons (pv 3) (pa_cons (pv 5) pa_nil))))
      (pss_cons (ps_set (i := 7) scAny.nd rfl (.inl rfl) (pe_cal CT h1 (pa_cons (pv 0) (pa_cons (pe_op op_add (pe_callB call_len_seq (by rfl) B.len PySem.boot_len (pa_cons (pv 6) pa_nil)) pe_int) pa_nil))))
      (pss_one (ps_ret (pe_op op_catM (pe_op op_catM (pe_slice sl_tupM (pv 6) po_none (po_some (pv 7))) (pe_tupF (pa_cons (pv 5) pa_nil))) (pe_slice sl_tupM (pv 6) (po_some (pv 7)) po_none))))))) pss_nil)
    (pss_one (ps_ret (pv 3))))), ?_⟩
  refine ⟨_, rfl, _, rfl, _, rfl, b, a, l, ps, pool, rfl, hb, ha, ho, hl, gs, hn, fun t order H1 o1 b1 e1 pm => ?_⟩
  refine ⟨_, rfl, b, 4, rfl, b1, by decide, by decide, fun way H2 o2 b2 w0 w1 => ⟨_, _, rfl, ?_⟩⟩
  have pst : (standOf ps order).Perm pool := (stand_perm ps order).trans pm
  generalize standOf ps order = stand at pst e1
  have e2 := e1.oth o2 b1
  have o12 := o1.trans o2
  have l2 : H2 l = some (.lst (pool.map V.str)) := o12 _ _ (hb.ne_strs hl) hl
  have sl : stand.length = pool.length := pst.length_eq
  have T2 : SqT K H2 t (stand.map V.str) := e2.sq
  refine ⟨_, rfl, rfl, _, rfl, ite2 (fun _ => ?_) (fun _ => ?_)⟩
  · refine ⟨_, rfl, _, rfl, b, l, pool, rfl, b2, .inr l2, hn, fun p ord H3 o3 b3 np e3 pm3 => ?_⟩
    exact ⟨p, _, rfl, .inl ⟨.inl (.inl e3), fun c Hc sc hc tc => q c ord Hc ((o12.trans o3).trans (Oth.of sc)) (b3.same sc) tc pm3⟩⟩
  · refine ⟨_, rfl, _, _, rfl, rfl, _, rfl, ite2 (fun _ => ?_) (fun _ => ?_)⟩
    · refine ⟨.ref t, rfl, t, _, rfl, .inr T2, _, _, rfl, rfl, _, rfl, ite2 (fun c => ?_) (fun _ => ?_)⟩
      · have c' : 0 < stand.length := by
          have z := of_decide_eq_true c
          rw [List.length_map] at z
          omega
        refine ⟨.ref t, rfl, .ref b, rfl, .ref t, rfl, t, _, rfl, .inr T2, b, _, rfl, b2, (by rw [List.length_map]; omega), (by rw [List.length_map]; omega), fun v H3 o3 b3 v0 v1 => ?_⟩
        rw [List.length_map] at v1
        have e3 := e2.oth o3 b2
        obtain ⟨x, hx⟩ : ∃ x, stand[v.toNat]? = some x := ⟨stand[v.toNat]'(by omega), List.getElem?_eq_getElem _⟩
        have ev : v = ((v.toNat : Nat) : Int) := by omega
        refine ⟨t, _, v, .str x, rfl, rfl, e3.sq, (by rw [ev]; exact atI_nat (ix_map hx)), ?_⟩
        refine ⟨.ref t, rfl, _, rfl, t, stand, x, rfl, e3, by omega, fun t4 H4 s4 e4 => ?_⟩
        have hxm : x ∈ stand := List.mem_of_getElem? hx
        have nds : stand.Nodup := pst.nodup_iff.mpr hd
        have plf : (x :: stand.filter fun y => !decide (y = x)).Perm stand := by
          have z1 : (stand.filter fun y => !decide (y = x)) = stand.erase x := by
            rw [nds.erase_eq_filter]
            refine List.filter_congr fun y _ => ?_
            by_cases z : y = x
            · subst z; simp
            · simp [z]
          rw [z1]
          exact (List.perm_cons_erase hxm).symm
        generalize (stand.filter fun y => !decide (y = x)) = left at plf e4
        have ll : left.length + 1 = stand.length := plf.length_eq
        have T4 : SqT K H4 t4 (left.map V.str) := e4.sq
        refine ⟨.ref b, rfl, .ref t4, rfl, t4, _, rfl, .inr T4, _, _, rfl, rfl, b, _, rfl, b3.same s4, (by omega), (by rw [List.length_map]; omega), fun u H5 o5 b5 u0 u1 => ?_⟩
        rw [List.length_map] at u1
        have e5 := e4.oth o5 (b3.same s4)
        have eu : u = ((u.toNat : Nat) : Int) := by omega
        refine ⟨.ref t4, rfl, _, rfl, _, rfl, t4, _, rfl, e5, fun t6 H6 s6 e6 => ?_⟩
        rw [cutV_map, eu, cutL_to] at e6
        refine ⟨_, rfl, (by show 1 ≤ sizeLine; decide), fun p Hp sp hp tp => ?_⟩
        refine ⟨t6, p, _, _, rfl, rfl, e6.same sp, tp, ?_, fun t7 H7 s7 e7 => ?_⟩
        · rw [List.length_map, List.length_take]
          exact small_le (by show _ + 1 ≤ 1000; omega)
        have s57 := (s6.trans sp).trans s7
        refine ⟨.ref t4, rfl, _, rfl, _, rfl, t4, _, rfl, e5.same s57, fun t8 H8 s8 e8 => ?_⟩
        rw [cutV_map, eu, cutL_from] at e8
        refine ⟨t7, t8, _, _, rfl, rfl, e7.same s8, e8, ?_, fun t9 H9 s9 e9 => ?_⟩
        · rw [List.length_append, List.length_map, List.length_map, List.length_take, List.length_drop]
          exact small_le (by show _ + 1 + _ ≤ 1000; omega)
        have s59 := (s57.trans s8).trans s9
        refine q t9 (left.take u.toNat ++ [x] ++ left.drop u.toNat) H9 ((((o12.trans o3).trans (Oth.of s4)).trans o5).trans (Oth.of s59)) (b5.same s59) ?_ ((ins_perm left u.toNat x).trans (plf.trans pst))
        rw [List.map_append, List.map_append]
        exact e9
      · exact ⟨.ref t, rfl, q t stand H2 o12 b2 e2 pst⟩
    · exact ⟨.ref t, rfl, q t stand H2 o12 b2 e2 pst⟩
/-! ### both_ways -/
abbrev sBoth : Stmt := topS 8
abbrev nBoth : List Str := ["friends", "known", "one", "other"]
theorem scBoth : FnScope nBoth ["friends"] (defScope sBoth) := ⟨rfl, rfl, rfl, by decide +kernel, rfl, by decide +kernel, by decide +kernel⟩
theorem ok_both {f : Addr} {fd : FuncData} (F : Fun K "both_ways" "both_ways" sBoth f fd) : FnOk P w K mg base CX0 1 f fd ["friends"] spBoth := by
  refine fok F scBoth (fun vs H Q E h => ?_) (fun cdv A outer s H vs Q E hr h => ?_)
  · obtain ⟨a, ps, rfl, _⟩ := h
    rfl
  obtain ⟨a, ps, rfl, ⟨bs, ha, hp, rfl⟩, hn, q⟩ := h
  rw [List.length_map] at hn
  have hu := hu_of hr
  refine ⟨_, pss_cons (ps_set (i := 1) scBoth.nd rfl (.inl rfl) pe_dnewT)
    (pss_cons (ps_for PassesOwn.never rfl (pi_or2 (pi_list (pv 0)) (pi_tup (pv 0))) (pg_orM (pg_tup rfl (pgs_cons (pg_name (i := 2) scBoth.nd rfl (.inl rfl)) (pgs_cons (pg_name (i := 3) scBoth.nd rfl (.inl rfl)) pgs_nil))) (pg_unl rfl (pgs_cons (pg_name (i := 2) scBoth.nd rfl (.inl rfl)) (pgs_cons (pg_name (i := 3) scBoth.nd rfl (.inl rfl)) pgs_nil))))
      (pss_cons (ps_dput hu (pv 1) (pe_tup (pa_cons (pv 2) (pa_cons (pv 3) pa_nil))) pe_bl rfl)
      (pss_one (ps_dput hu (pv 1) (pe_tup (pa_cons (pv 3) (pa_cons (pv 2) pa_nil))) pe_bl rfl))))
    (pss_one (ps_ret (pv 1)))), ?_⟩
  refine fun d hd => ?_
  have s0 : Same H (upd H d (.dT [])) := same_upd hd
  have Pv : ∃ Pv : Nat → L2.St → Hp → Prop, Pv = fun i σ H' => ∃ (y2 y3 : Option V) (kvs : List (List Key × V)), σ = [some (.ref a), some (.ref d), y2, y3] ∧ Same H H' ∧ H' d = some (.dT kvs) ∧ kvs.length ≤ 2 * i ∧ ∀ x y, (valV kvs (k2 x y)).isSome = frd ((bs.map (·.2)).take i) x y := ⟨_, rfl⟩
  obtain ⟨Pv, hPv⟩ := Pv
  have start : Pv 0 [some (.ref a), some (.ref d), none, none] (upd H d (.dT [])) := by
    rw [hPv]
    exact ⟨_, _, [], rfl, s0, upd_same, Nat.zero_le _, fun x y => rfl⟩
  have turn : ∀ (i : Nat) (c : B3) (σ : L2.St) (H1 : Hp), bs[i]? = some c → Pv i σ H1 → ∀ (D : Ends), D.nx = Pv (i + 1) →
      (tSeq (sDPut (tVar 1) (tTup (tCons (tVar 2) (tCons (tVar 3) tNil))) (tC (.bl true))) (sDPut (tVar 1) (tTup (tCons (tVar 3) (tCons (tVar 2) tNil))) (tC (.bl true)))) D ((σ.set 2 (some (.str c.2.1))).set 3 (some (.str c.2.2))) H1 := by
    intro i c σ H1 hc pv D hD
    rw [hPv] at pv
    obtain ⟨y2, y3, kvs, rfl, s1, e1, l1, v1⟩ := pv
    have hi : i < bs.length := (List.getElem?_eq_some_iff.mp hc).1
    refine ⟨_, rfl, _, rfl, _, rfl, (by show 2 ≤ sizeLine; decide), fun p hp' => ?_⟩
    have n1 : d ≠ p := ne_of_none e1 hp'
    have e2 : upd H1 p (.tup [.str c.2.1, .str c.2.2]) d = some (.dT kvs) := (upd_ne n1).trans e1
    refine ⟨d, _, rfl, DPut.t (k := k2 c.2.1 c.2.2) e2 upd_same (small9 (by omega)), ?_⟩
    have pl := putK_len (kvs := kvs) (k := k2 c.2.1 c.2.2) (v := V.bl true)
    refine ⟨_, rfl, _, rfl, _, rfl, (by show 2 ≤ sizeLine; decide), fun p2 hp2 => ?_⟩
    have n2 : d ≠ p2 := fun z => by rw [← z, upd_same] at hp2; cases hp2
    refine ⟨d, _, rfl, DPut.t (k := k2 c.2.2 c.2.1) ((upd_ne n2).trans upd_same) upd_same (small9 (by omega)), ?_⟩
    have pl2 := putK_len (kvs := putK kvs (k2 c.2.1 c.2.2) (V.bl true)) (k := k2 c.2.2 c.2.1) (v := V.bl true)
    rw [hD, hPv]
    refine ⟨_, _, _, rfl, fun b o e => ?_, upd_same, by omega, fun x y => ?_⟩
    · have nb : b ≠ d := ne_of_none e hd
      rw [upd_ne nb]
      refine same_upd hp2 _ _ ?_
      rw [upd_ne nb]
      exact same_upd hp' _ _ (s1 _ _ e)
    · rw [both_put v1, List.take_add_one, List.getElem?_map, hc]
      rfl
  have fin : ∀ (σ : L2.St) (H1 : Hp), Pv (refs bs).length σ H1 → ∃ v, σ[1]? = some (some v) ∧ Q v H1 := by
    intro σ H1 pv
    rw [hPv] at pv
    obtain ⟨y2, y3, kvs, rfl, s1, e1, l1, v1⟩ := pv
    refine ⟨.ref d, rfl, q d H1 s1 hd ⟨kvs, e1, fun x y => ?_⟩⟩
    rw [v1, List.take_of_length_le (by show (bs.map _).length ≤ (bs.map _).length; rw [List.length_map, List.length_map]; exact Nat.le_refl _)]
  have item : ∀ (i : Nat) (v : V) (σ : L2.St) (H1 : Hp), (refs bs)[i]? = some v → Pv i σ H1 → ∃ c : B3, bs[i]? = some c ∧ v = .ref c.1 ∧ (H1 c.1 = some (.tup [.str c.2.1, .str c.2.2]) ∨ H1 c.1 = some (.lst [.str c.2.1, .str c.2.2])) := by
    intro i v σ H1 e pv
    rw [hPv] at pv
    obtain ⟨y2, y3, kvs, rfl, s1, e1, l1, v1⟩ := pv
    obtain ⟨c, hc, rfl⟩ := at_map e
    exact ⟨c, hc, rfl, (hp c (List.mem_of_getElem? hc)).imp (s1 _ _) (s1 _ _)⟩
  have stay : ∀ (i : Nat) (σ : L2.St) (H1 : Hp), Pv i σ H1 → Same H H1 := by
    intro i σ H1 pv
    rw [hPv] at pv
    obtain ⟨y2, y3, kvs, rfl, s1, _⟩ := pv
    exact s1
  rcases ha with e | e
  · refine .inr ⟨.ref a, rfl, a, rfl, ⟨_, .inl (.inl (s0 _ _ e))⟩, ?_⟩
    refine for_it (walk_tup (xs := refs bs)) Pv start (fun i σ H1 _ pv => .inl (.inl (stay i σ H1 pv _ _ e))) ?_ fin
    rintro i v σ H2 H1 hi pv ⟨rfl, e2⟩
    obtain ⟨c, hc, rfl, h3⟩ := item i v σ _ e2 pv
    rcases h3 with h3 | h3
    · exact Or.inl ⟨c.1, _, rfl, .inl (.inl h3), rfl, _, _, rfl, _, _, rfl, rfl, turn i c σ _ hc pv _ rfl⟩
    · exact Or.inr ⟨c.1, _, rfl, .inl (.inl h3), rfl, _, _, rfl, _, _, rfl, rfl, turn i c σ _ hc pv _ rfl⟩
  · refine .inl ⟨.ref a, rfl, a, rfl, ⟨_, .inl (.inl (s0 _ _ e))⟩, ?_⟩
    refine for_it (walk_list (xs := refs bs)) Pv start (fun i σ H1 _ pv => .inl (.inl (stay i σ H1 pv _ _ e))) ?_ fin
    rintro i v σ H2 H1 hi pv ⟨rfl, e2⟩
    obtain ⟨c, hc, rfl, h3⟩ := item i v σ _ e2 pv
    rcases h3 with h3 | h3
    · exact Or.inl ⟨c.1, _, rfl, .inl (.inl h3), rfl, _, _, rfl, _, _, rfl, rfl, turn i c σ _ hc pv _ rfl⟩
    · exact Or.inr ⟨c.1, _, rfl, .inl (.inl h3), rfl, _, _, rfl, _, _, rfl, rfl, turn i c σ _ hc pv _ rfl⟩
/-! ### last_friend_place -/
abbrev sLfp : Stmt := topS 9
abbrev nLfp : List Str := ["known", "row", "who", "places", "place", "other"]
theorem scLfp : FnScope nLfp ["known", "row", "who"] (defScope sLfp) := ⟨rfl, rfl, rfl, by decide +kernel, rfl, by decide +kernel, by decide +kernel⟩
theorem ok_lfp {f : Addr} {fd : FuncData} (B : Blt mg) (F : Fun K "last_friend_place" "last_friend_place" sLfp f fd) : FnOk P w K mg base CX0 1 f fd ["known", "row", "who"] spLfp := by
  refine fok F scLfp (fun vs H Q E h => ?_) (fun cdv A outer s H vs Q E hr h => ?_)
  · obtain ⟨d, r, ps, row, who, rfl, _⟩ := h
    rfl
  obtain ⟨d, r, ps, row, who, rfl, hd, hrow, hn, q⟩ := h
  have hu := hu_of hr
  refine ⟨_, pss_cons (ps_setLc (i := 3) (own := [("place", 4), ("other", 5)]) (g := gTup K 2 (gCons (gName 4) (gCons (gName 5) gNil))) (tt := tB (tDIn (tTup (tCons (tVar 2) (tCons (tVar 5) tNil))) (tVar 0))) rfl scLfp.nd rfl rfl (sw_true rfl rfl rfl (by decide +kernel)) (pi_or2 (pi_enum (by rfl) B.enumerate (pa_cons (pv 1) pa_nil)) (pi_enumT (by rfl) B.enumerate (pa_cons (pv 1) pa_nil))) (blkOk_by (N := nLfp) (sc := defScope sLfp) (by decide +kernel))
        (fun _ _ _ _ _ => pg_tup rfl (pgs_cons (pg_name (i := 4) scLfp.nd rfl (Or.inl rfl)) (pgs_cons (pg_name (i := 5) scLfp.nd rfl (Or.inl rfl)) pgs_nil)))
        (fun _ _ _ _ _ => pts_one (pt_cmp (pc_din hu (pe_tup (pa_cons (pv 2) (pa_cons (pv 5) pa_nil))) (pv 0)))) (fun _ _ _ _ _ => pv 4))
    (pss_one (ps_ret (pe_ifExp (pt_truth (pv 3) (by intro _; rfl)) (pe_ix ix_list (pv 3) (pe_un un_neg pe_int) (fun _ _ => rfl)) pe_non))), ?_⟩
  have key : ∀ (J : It) (G : Hp → Prop), Walk J (row.map V.str).length G (YPair (fun i => some (.int (i : Nat))) (fun i => (row.map V.str)[i]?)) → (∀ H', Same H H' → G H') → ∀ D, H D = none → ∀ (Qd : Hp → Prop), (∀ H' (ls : List Int), Same H H' → H' D = some (.lst (ls.map V.int)) → ls.getLast? = (lastP (frd ps who) row).map (fun k => (k : Int)) → Qd H') →
      ∃ W : Nat → Nat → Hp → Prop, (∃ m, W 0 m (upd H D (.lst []))) ∧ ∀ i m H, W i m H →
      (J.stop i H ∧ Qd H) ∨ (J.go i H ∧ ∃ Nx : Hp → Prop, (∀ H', Nx H' → ∃ m', m' < m ∧ W (i + 1) m' H') ∧ ∀ x H', J.yld i H x H' → (gTup K 2 (gCons (gName 4) (gCons (gName 5) gNil))) x (wipe [some (.ref d), some (.ref r), some (.str who), none, none, none] [4, 5]) H' fun σ2 H2 => wipe σ2 [4, 5] = wipe [some (.ref d), some (.ref r), some (.str who), none, none, none] [4, 5] ∧ (tB (tDIn (tTup (tCons (tVar 2) (tCons (tVar 5) tNil))) (tVar 0))) σ2 H2 fun b H3 =>
        if b = true then (tVar 4) σ2 H3 fun y H4 => ∃ acc, H4 D = some (.lst acc) ∧ acc.length < sizeLine ∧ Nx (upd H4 D (.lst (acc ++ [y]))) else Nx H3) := by
    intro J G wk hG D hD Qd fin
    refine lc_it wk (fun i H' => ∃ ls : List Int, Same H H' ∧ H' D = some (.lst (ls.map V.int)) ∧ ls.length ≤ i ∧ ls.getLast? = (lastP (frd ps who) (row.take i)).map (fun k => (k : Int))) ?_ ?_ ?_ ?_
    · exact ⟨[], same_upd hD, upd_same, Nat.zero_le _, rfl⟩
    · rintro i H' _ ⟨ls, s1, _⟩
      exact hG H' s1
    · rintro i v H1 H2 hi ⟨ls, s1, d1, m1, g1⟩ ⟨T, x1, x2, rfl, nT, rfl, e1, e2⟩
      cases e1
      obtain ⟨o, ho, rfl⟩ := at_map e2
      rw [List.length_map] at hi
      have s2 := s1.trans (same_upd (o := .tup [.int (i : Nat), .str o]) nT)
      refine ⟨T, _, rfl, .inl (.inl upd_same), rfl, _, _, rfl, _, _, rfl, rfl, rfl, ?_⟩
      refine ⟨_, rfl, _, rfl, (by show 2 ≤ sizeLine; decide), fun p hp => ?_⟩
      have s3 := s2.trans (same_upd (o := .tup [.str who, .str o]) hp)
      obtain ⟨kvs, k1, k3⟩ := hd.same s3
      have nDT : D ≠ T := ne_of_none d1 nT
      have d2 : upd H1 T (.tup [.int (i : Nat), .str o]) D = some (.lst (ls.map V.int)) := (upd_ne nDT).trans d1
      have nDp : D ≠ p := ne_of_none d2 hp
      have d3 := (upd_ne (o := .tup [.str who, .str o]) nDp).trans d2
      refine ⟨.ref d, rfl, d, _, rfl, DGet.t (k := k2 who o) k1 upd_same, _, rfl, ?_⟩
      rw [k3]
      have lt := lastP_take (frd ps who) ho
      refine ite2 (fun c => ?_) (fun c => ?_)
      · rw [if_pos c] at lt
        refine ⟨_, rfl, _, d3, ?_, ls ++ [(i : Int)], fun b o' e => ?_, ?_, ?_, ?_⟩
        · rw [List.length_map]
          exact small1000 (by omega)
        · rw [upd_ne (ne_of_none e hD)]
          exact s3 _ _ e
        · rw [upd_same, List.map_append]
          rfl
        · rw [List.length_append]
          show ls.length + 1 ≤ i + 1
          omega
        · rw [lt, List.getLast?_append]
          rfl
      · rw [if_neg c] at lt
        exact ⟨ls, s3, d3, by omega, by rw [lt]; exact g1⟩
    · rintro H1 ⟨ls, s1, d1, m1, g1⟩
      rw [List.length_map, List.take_of_length_le (Nat.le_refl _)] at g1
      exact fin H1 ls s1 d1 g1
  have last : ∀ (D : Addr) (H' : Hp) (ls : List Int), Same H H' → H' D = some (.lst (ls.map V.int)) → ls.getLast? = (lastP (frd ps who) row).map (fun k => (k : Int)) →
      (tRet (tIf (fun σ H Q => tVar 3 σ H fun x H1 => ∃ k, TruV K x H1 k ∧ Q k H1) (tOp (rIxL K) (tVar 3) (tUn (rU fun i => .int (-i)) (tC (.int 1)))) (tC .non))) { nx := fun _ H' => Q .non H', rt := Q } [some (.ref d), some (.ref r), some (.str who), some (.ref D), none, none] H' := by
    intro D H' ls s1 d1 g1
    refine ⟨.ref D, rfl, _, .inl ⟨_, .inl (.inl d1), rfl⟩, ite2 (fun c => ?_) (fun c => ?_)⟩
    · obtain ⟨z, hz⟩ : ∃ z, ls.getLast? = some z := by
        cases h : ls.getLast? with
        | some z => exact ⟨z, rfl⟩
        | none =>
          rw [List.getLast?_eq_none_iff.mp h] at c
          cases c
      obtain ⟨ys, hz'⟩ := List.getLast?_eq_some_iff.mp hz
      have ev : lfpV (lastP (frd ps who) row) = .int z := by
        rw [hz] at g1
        cases e : lastP (frd ps who) row with
        | none => rw [e] at g1; cases g1
        | some k =>
          rw [e] at g1
          have : z = (k : Int) := Option.some.inj g1
          rw [this]
          rfl
      refine ⟨.ref D, rfl, 1, rfl, D, _, -1, .int z, rfl, rfl, .inl (.inl d1), ?_, ?_⟩
      · rw [hz', List.map_append]
        exact atI_last _ _
      · rw [← ev]
        exact q H' s1
    · have e : lfpV (lastP (frd ps who) row) = .non := by
        cases h : lastP (frd ps who) row with
        | none => rfl
        | some k =>
          rw [h] at g1
          cases ls with
          | nil => cases g1
          | cons x r => exact absurd rfl c
      show Q .non H'
      rw [← e]
      exact q H' s1
  rcases hrow with e | e
  · refine .inr ⟨.ref r, rfl, r, _, rfl, e.sq, fun D hD => ?_⟩
    exact key _ _ walk_enumT (fun H' s => (e.same s).sq) D hD _ (fun H' ls s1 d1 g1 => last D H' ls s1 d1 g1)
  · refine .inl ⟨.ref r, rfl, r, _, rfl, .inl (.inl e), fun D hD => ?_⟩
    exact key _ _ walk_enum (fun H' s => .inl (.inl (s _ _ e))) D hD _ (fun H' ls s1 d1 g1 => last D H' ls s1 d1 g1)
/-! ### host_place, stood_in, let_in -/
abbrev sHostP : Stmt := topS 11
abbrev nHostP : List Str := ["known", "row", "who"]
theorem scHostP : FnScope nHostP nHostP (defScope sHostP) := ⟨rfl, rfl, rfl, by decide +kernel, rfl, by decide +kernel, by decide +kernel⟩
theorem ok_hostP {f : Addr} {fd : FuncData} (CL : Cal P w K mg base 1 "last_friend_place" ["known", "row", "who"] spLfp) (F : Fun K "host_place" "host_place" sHostP f fd) : FnOk P w K mg base CX0 2 f fd nHostP spHostP := by
  refine fok F scHostP (fun vs H Q E h => ?_) (fun cdv A outer s H vs Q E hr h => ?_)
  · obtain ⟨a, r, ps, row, who, rfl, _⟩ := h
    rfl
  obtain ⟨d, r, ps, row, who, rfl, hd, hrow, hn, nw, q⟩ := h
  refine ⟨_, pss_cons (ps_if (pt_cmpR op_in_seq (pv 2) (pv 1) (by rfl)) (pss_one ps_never) pss_nil)
    (pss_one (ps_ret (pe_cal CL hr (pa_cons (pv 0) (pa_cons (pv 1) (pa_cons (pv 2) pa_nil)))))), ?_⟩
  have sq : SqL K H r (row.map V.str) ∨ SqT K H r (row.map V.str) := hrow.elim (fun e => .inr e.sq) (fun e => .inl (.inl (.inl e)))
  refine ⟨_, rfl, .ref r, rfl, r, _, rfl, sq, rfl, flat_strs row, _, rfl, ?_⟩
  rw [inV_strs, decide_eq_false nw]
  exact ⟨_, rfl, _, rfl, _, rfl, d, r, ps, row, who, rfl, hd, hrow, hn, fun H2 s2 => q H2 s2⟩
def spComingP : Sp := fun vs H Q _ => ∃ (d r : Addr) (ps : List (Str × Str)) (row : List Str) (who : Str), vs = [.ref d, .ref r, .str who] ∧ KnAt H d ps ∧ RowAt H r row ∧ row.length ≤ 100 ∧ who ∉ row ∧
  ∀ H', Same H H' → Q (.int (spotOf ps row who : Nat)) H'
theorem spot_le (ps : List (Str × Str)) (row : List Str) (who : Str) : spotOf ps row who ≤ row.length := by
  unfold spotOf
  split
  · rename_i k ek
    exact lastP_lt ek
  · exact Nat.le_refl _
abbrev sComingP : Stmt := topS 12
abbrev nComingP : List Str := ["known", "row", "who", "place"]
theorem scComingP : FnScope nComingP nHostP (defScope sComingP) := ⟨rfl, rfl, rfl, by decide +kernel, rfl, by decide +kernel, by decide +kernel⟩
theorem ok_comingP {f : Addr} {fd : FuncData} (B : Blt mg) (CH : Cal P w K mg base 2 "host_place" nHostP spHostP) (F : Fun K "coming_place" "coming_place" sComingP f fd) : FnOk P w K mg base CX0 3 f fd nHostP spComingP := by
  refine fok F scComingP (fun vs H Q E h => ?_) (fun cdv A outer s H vs Q E hr h => ?_)
  · obtain ⟨a, r, ps, row, who, rfl, _⟩ := h
    rfl
  obtain ⟨a, r, ps, row, who, rfl, ha, hrow, hn, nw, q⟩ := h
  refine ⟨_, pss_cons (ps_set (i := 3) scComingP.nd rfl (.inl rfl) (pe_cal CH hr (pa_cons (pv 0) (pa_cons (pv 1) (pa_cons (pv 2) pa_nil)))))
    (pss_one (ps_ret (pe_ifExp (pt_cmp (pc_isN (pv 3))) (pe_callB call_len_seq (by rfl) B.len PySem.boot_len (pa_cons (pv 1) pa_nil)) (pe_op op_add (pv 3) pe_int)))), ?_⟩
  refine ⟨_, rfl, _, rfl, _, rfl, a, r, ps, row, who, rfl, ha, hrow, hn, nw, fun H1 s1 => ?_⟩
  have row1 := hrow.same s1
  refine ⟨_, rfl, _, rfl, ?_⟩
  have q1 := q H1 s1
  unfold spotOf at q1
  cases e : lastP (frd ps who) row with
  | none =>
    have sq : SqL K H1 r (row.map V.str) ∨ SqT K H1 r (row.map V.str) := row1.elim (fun e => .inr e.sq) (fun e => .inl (.inl (.inl e)))
    refine ⟨.ref r, rfl, r, _, rfl, sq, ?_⟩
    rw [List.length_map]
    rw [e] at q1
    exact q1
  | some k =>
    rw [e] at q1
    exact ⟨_, rfl, _, _, rfl, rfl, q1⟩
abbrev sStood : Stmt := topS 13
abbrev nStood : List Str := ["known", "row", "who", "at"]
theorem scStood : FnScope nStood nHostP (defScope sStood) := ⟨rfl, rfl, rfl, by decide +kernel, rfl, by decide +kernel, by decide +kernel⟩
theorem ok_stood {f : Addr} {fd : FuncData} (B : Blt mg) (CH : Cal P w K mg base 3 "coming_place" nHostP spComingP) (F : Fun K "stood_in" "stood_in" sStood f fd) : FnOk P w K mg base CX0 4 f fd nHostP spStood := by
  refine fok F scStood (fun vs H Q E h => ?_) (fun cdv A outer s H vs Q E hr h => ?_)
  · obtain ⟨a, r, ps, row, who, rfl, _⟩ := h
    rfl
  obtain ⟨a, r, ps, row, who, rfl, ha, hrow, hn, nw, q⟩ := h
  refine ⟨_, pss_cons (ps_set (i := 3) scStood.nd rfl (.inl rfl) (pe_cal CH hr (pa_cons (pv 0) (pa_cons (pv 1) (pa_cons (pv 2) pa_nil)))))
    (pss_one (ps_ret (pe_op op_catM (pe_op op_catM (pe_mid (pe_callTy call_tupleF (by rfl) B.tuple (by decide +kernel) (pa_cons (pe_slice (sl_or2 sl_list sl_tupM) (pv 1) po_none (po_some (pv 3))) pa_nil))) (pe_tupF (pa_cons (pv 2) pa_nil))) (pe_mid (pe_callTy call_tupleF (by rfl) B.tuple (by decide +kernel) (pa_cons (pe_slice (sl_or2 sl_list sl_tupM) (pv 1) (po_some (pv 3)) po_none) pa_nil)))))), ?_⟩
  refine ⟨_, rfl, _, rfl, _, rfl, a, r, ps, row, who, rfl, ha, hrow, hn, nw, fun H1 s1 => ?_⟩
  have row1 := hrow.same s1
  have hspot := spot_le ps row who
  refine ⟨fun v H2 => ∃ t, v = .ref t ∧ Same H1 H2 ∧ TupAt H2 t ((row.take (spotOf ps row who)).map V.str), ?_, ?_⟩
  · rcases row1 with e | e
    · refine ⟨.ref r, rfl, _, rfl, _, rfl, .inr ⟨r, _, rfl, e, fun t H2 s2 e2 => ?_⟩⟩
      rw [cutV_map, cutL_to] at e2
      exact ⟨t, _, rfl, .inr ⟨e2.sq, t, rfl, s2, e2⟩⟩
    · refine ⟨.ref r, rfl, _, rfl, _, rfl, .inl ⟨r, _, rfl, .inl (.inl e), fun p hp => ?_⟩⟩
      rw [cutV_map, cutL_to]
      exact ⟨p, _, rfl, .inl ⟨.inl (.inl upd_same), fun t H2 s2 n2 t2 => ⟨t, rfl, (same_upd hp).trans s2, t2⟩⟩⟩
  rintro v H2 ⟨t1, rfl, s2, e2⟩
  refine ⟨_, rfl, (by show 1 ≤ sizeLine; decide), fun p H3 s3 hp3 t3 => ?_⟩
  refine ⟨t1, p, _, _, rfl, rfl, e2.same s3, t3, ?_, fun t4 H4 s4 e4 => ?_⟩
  · rw [List.length_map, List.length_take]
    exact small_le (by show _ + 1 ≤ 1000; omega)
  have s24 := (s2.trans s3).trans s4
  have row4 := row1.same s24
  refine ⟨fun v H5 => ∃ t, v = .ref t ∧ Same H4 H5 ∧ TupAt H5 t ((row.drop (spotOf ps row who)).map V.str), ?_, ?_⟩
  · rcases row4 with e | e
    · refine ⟨.ref r, rfl, _, rfl, _, rfl, .inr ⟨r, _, rfl, e, fun t H5 s5 e5 => ?_⟩⟩
      rw [cutV_map, cutL_from] at e5
      exact ⟨t, _, rfl, .inr ⟨e5.sq, t, rfl, s5, e5⟩⟩
    · refine ⟨.ref r, rfl, _, rfl, _, rfl, .inl ⟨r, _, rfl, .inl (.inl e), fun p hp => ?_⟩⟩
      rw [cutV_map, cutL_from]
      exact ⟨p, _, rfl, .inl ⟨.inl (.inl upd_same), fun t H2 s2 n2 t2 => ⟨t, rfl, (same_upd hp).trans s2, t2⟩⟩⟩
  rintro v H5 ⟨t5, rfl, s5, e5⟩
  refine ⟨t4, t5, _, _, rfl, rfl, e4.same s5, e5, ?_, fun t6 H6 s6 e6 => ?_⟩
  · rw [List.length_append, List.length_map, List.length_map, List.length_take, List.length_drop]
    exact small_le (by show _ + 1 + _ ≤ 1000; omega)
  refine q t6 H6 ((s1.trans s24).trans (s5.trans s6)) ?_
  unfold comeTo
  rw [List.map_append, List.map_append]
  exact e6
abbrev sLetIn : Stmt := topS 14
abbrev nLetIn : List Str := ["friends", "row", "who"]
theorem scLetIn : FnScope nLetIn nLetIn (defScope sLetIn) := ⟨rfl, rfl, rfl, by decide +kernel, rfl, by decide +kernel, by decide +kernel⟩
theorem ok_letIn {f : Addr} {fd : FuncData} (CB : Cal P w K mg base 1 "both_ways" ["friends"] spBoth) (CS : Cal P w K mg base 4 "stood_in" ["known", "row", "who"] spStood) (F : Fun K "let_in" "let_in" sLetIn f fd) : FnOk P w K mg base CX0 5 f fd nLetIn spLetIn := by
  refine fok F scLetIn (fun vs H Q E h => ?_) (fun cdv A outer s H vs Q E hr h => ?_)
  · obtain ⟨a, r, ps, row, who, rfl, _⟩ := h
    rfl
  obtain ⟨a, r, ps, row, who, rfl, ha, hp, hrow, hn, nw, q⟩ := h
  refine ⟨_, pss_one (ps_ret (pe_cal CS hr (pa_cons (pe_cal CB hr (pa_cons (pv 0) pa_nil)) (pa_cons (pv 1) (pa_cons (pv 2) pa_nil))))), ?_⟩
  refine ⟨_, rfl, a, ps, rfl, ha, hp, fun d H1 s1 nd1 k1 => ?_⟩
  exact ⟨_, rfl, _, rfl, d, r, ps, row, who, rfl, k1, hrow.same s1, hn, nw, fun t H2 s2 e2 => q t H2 (s1.trans s2) e2⟩
/-! ### is_name, any text -/
abbrev sIsName : Stmt := topS 7
abbrev nIsName : List Str := ["thing", "letter"]
theorem scIsName : FnScope nIsName ["thing"] (defScope sIsName) := ⟨rfl, rfl, rfl, by decide +kernel, rfl, by decide +kernel, by decide +kernel⟩
theorem ok_isNm {f : Addr} {fd : FuncData} (B : Blt mg) (hL : ∃ u, mg "LONGEST_NAME" = some u ∧ RelV (.int 8) u) (F : Fun K "is_name" "is_name" sIsName f fd) : FnOk P w K mg base CX0 1 f fd ["thing"] spIsNm := by
  obtain ⟨uL, hmL, rL⟩ := hL
  refine fok F scIsName (fun vs H Q E h => ?_) (fun cdv A outer s H vs Q E hr h => ?_)
  · obtain ⟨x, rfl, _⟩ := h
    rfl
  obtain ⟨x, rfl, lx, q⟩ := h
  refine ⟨_, pss_cons (ps_if (PW.pt (pw_or (pt_not (pt_val (pe_callB call_isi (by rfl) B.isinstance (by decide +kernel) (pa_cons (pv 0) (pa_cons (pe_bltn (v := .ty "str") (by rfl) B.str (by decide +kernel) rfl) pa_nil))))) (pw_or1 (pt_not (pt_chain op_le op_le pe_int (pe_callB call_len_str (by rfl) B.len PySem.boot_len (pa_cons (pv 0) pa_nil)) (pe_glob (v := .int 8) (by rfl) hmL rL)))))) (pss_one (ps_ret pe_bl)) pss_nil)
    (pss_one (ps_ret (pe_callB (cr_all rfl) (by rfl) B.all (by decide +kernel) (pa_cons (pe_lc (own := [("letter", 1)]) (g := gName 1) (tt := tYes) (te := tChain rLeS rLeS (tC (.str "a")) (tVar 1) (tC (.str "z"))) rfl scIsName.nd (pi_str (pv 0)) (blkOk_by (N := nIsName) (sc := defScope sIsName) (by decide +kernel))
      (fun _ _ _ _ _ => pg_name (i := 1) scIsName.nd rfl (Or.inl rfl)) (fun _ _ _ _ _ => pts_nil) (fun _ _ _ _ _ => pe_chain op_leS op_leS pe_str (pv 1) pe_str)) pa_nil)))), ?_⟩
  refine ⟨.str x, rfl, _, _, _, _, true, rfl, .ty _, .base (.str x), kit_ty (by decide +kernel), true, rfl, ?_⟩
  refine ⟨.str x, rfl, x, rfl, Nat.le_trans lx (by decide), _, _, rfl, rfl, _, rfl, ?_⟩
  by_cases h1 : 1 ≤ x.length
  · have e1 : decide ((1 : Int) ≤ ((x.length : Nat) : Int)) = true := decide_eq_true (by omega)
    rw [e1]
    refine iteT ⟨_, _, rfl, rfl, _, rfl, ?_⟩
    by_cases h2 : x.length ≤ 8
    · have e2 : decide (((x.length : Nat) : Int) ≤ (8 : Int)) = true := decide_eq_true (by omega)
      rw [e2]
      refine ⟨.str x, rfl, x, rfl, fun D hD => ?_⟩
      refine lc_list (walk_str (z := x)) x.cps.toList (fun c => .bl (lb c)) (by simp) (by have : x.cps.size ≤ 8 := h2; omega) hD (fun _ _ => trivial) ?_ ?_
      · rintro i c v H2 H2' k hi s2 ⟨rfl, c', hc, rfl⟩ hk
        obtain rfl : c' = c := by
          rw [← Array.getElem?_toList] at hc
          exact Option.some.inj (hc.symm.trans hi)
        refine ⟨rfl, _, rfl, _, _, rfl, rfl, _, rfl, ?_⟩
        have hk' : ∀ H4, Same H2' H4 → k (.bl (decide (97 ≤ c') && decide (c' ≤ 122))) H4 := hk
        by_cases c1 : 97 ≤ c'
        · rw [show (!decide ((⟨#[c']⟩ : Str).cps.toList < (("a" : Str)).cps.toList)) = true from letter_ge c1]
          refine iteT ⟨_, _, rfl, rfl, ?_⟩
          rw [decide_eq_true c1, Bool.true_and] at hk'
          by_cases c2 : c' ≤ 122
          · rw [show (!decide ((("z" : Str)).cps.toList < (⟨#[c']⟩ : Str).cps.toList)) = true from letter_le c2]
            rw [decide_eq_true c2] at hk'
            exact hk' H2' (Same.refl _)
          · rw [show (!decide ((("z" : Str)).cps.toList < (⟨#[c']⟩ : Str).cps.toList)) = false from letter_gt (by omega)]
            rw [decide_eq_false c2] at hk'
            exact hk' H2' (Same.refl _)
        · rw [show (!decide ((⟨#[c']⟩ : Str).cps.toList < (("a" : Str)).cps.toList)) = false from letter_lt (by omega)]
          rw [decide_eq_false c1, Bool.false_and] at hk'
          exact iteF (hk' H2' (Same.refl _))
      · intro H2 s2 d2
        rw [bools_map] at d2
        refine ⟨D, _, rfl, .inl (.inl d2), ?_⟩
        have := q H2 s2
        rw [nb_in h1 h2] at this
        exact this
    · have e2 : decide (((x.length : Nat) : Int) ≤ (8 : Int)) = false := decide_eq_false (by omega)
      rw [e2]
      have := q H (Same.refl _)
      rw [show nb x = false by unfold nb; simp [h2]] at this
      exact this
  · have e1 : decide ((1 : Int) ≤ ((x.length : Nat) : Int)) = false := decide_eq_false (by omega)
    rw [e1]
    refine iteF ?_
    have := q H (Same.refl _)
    rw [show nb x = false by unfold nb; simp [h1]] at this
    exact ⟨_, rfl, this⟩
/-! ### BadDeed -/
abbrev sIBadDeed : Stmt := clsFn (topS 1) 0
abbrev nIBadDeed : List Str := ["self", "number"]
theorem scIBadDeed : FnScope nIBadDeed nIBadDeed (defScope sIBadDeed) := ⟨rfl, rfl, rfl, by decide +kernel, rfl, by decide +kernel, by decide +kernel⟩
theorem ok_iBadDeed {C f : Addr} {fd : FuncData} (T : OwnK K mg "BadDeed" "ValueError" "ValueError.__new__" "ValueError.__init__" "ValueError" C f) (hnumber : PySem.W.findIn K (.ref C) "number" = some none) (F : Fun K "__init__" "BadDeed.__init__" sIBadDeed f fd) : L2.FnOk P w K mg base L2.CX0 1 f fd nIBadDeed (spInit1 C "number") := by
  refine F.ok scIBadDeed (fun vs H Q E h => ?_) (fun cdv A outer s H vs Q E hr h => ?_)
  · obtain ⟨a, v, rfl, _⟩ := h
    rfl
  refine ⟨_, pss_cons (ps_expr (pe_baseinit base_VE (by rfl) T.nB PyProof.Rows.Boot.«ValueError» T.vB (pa_cons (pv 0) (pa_cons (pe_joined (.cons pe_str (.cons (pe_fmt (pv 1)) (.cons pe_str .nil)))) pa_nil))))
    (pss_one (ps_put base_VE (pv 0) (pv 1))), ?_⟩
  obtain ⟨a, v, rfl, ha, fo, q⟩ := h
  have e0 : (Str.empty).length ≤ 0 := Nat.le_refl _
  rcases fo with ⟨i, rfl, hi⟩ | ⟨z, rfl, hz⟩
  · have l1 := fit_k e0 (c := "deed ") (m := 5) (by decide +kernel)
    have l2 := fit_k l1 (c := (Str.ofString (toString i))) (int_len hi)
    have l3 := fit_k l2 (c := " can't be done") (m := 14) (by decide +kernel)
    exact ⟨_, rfl, _, rfl, fit_line l1 (by decide), _, rfl, .inr ⟨i, rfl, (Nat.lt_trans hi (by decide)), _, rfl, fit_line l2 (by decide), _, rfl, fit_line l3 (by decide), a, C, _, rfl, (by show 1 ≤ 1000; decide), T.O, ha, _, rfl, _, rfl, a, C, rfl, T.O, hnumber, .inl ⟨ha, fun dx h1 h2 => q dx h1 h2⟩⟩⟩
  · have l1 := fit_k e0 (c := "deed ") (m := 5) (by decide +kernel)
    have l2 := fit_k l1 (c := z) hz
    have l3 := fit_k l2 (c := " can't be done") (m := 14) (by decide +kernel)
    exact ⟨_, rfl, _, rfl, fit_line l1 (by decide), _, rfl, .inl ⟨z, rfl, (fit_line hz (by decide)), _, rfl, fit_line l2 (by decide), _, rfl, fit_line l3 (by decide), a, C, _, rfl, (by show 1 ≤ 1000; decide), T.O, ha, _, rfl, _, rfl, a, C, rfl, T.O, hnumber, .inl ⟨ha, fun dx h1 h2 => q dx h1 h2⟩⟩⟩
/-! ### reads_as_deed -/
abbrev sReads : Stmt := topS 16
abbrev nRds : List Str := ["thing"]
abbrev pRds : List Str := ["thing"]
theorem scRds : FnScope nRds pRds (defScope sReads) := ⟨rfl, rfl, rfl, by decide +kernel, rfl, by decide +kernel, by decide +kernel⟩
-- slots: 0:thing
theorem ok_rds5 {f : Addr} {fd : FuncData} (B : Blt mg) (CIn : Cal P w K mg base 1 "is_name" ["thing"] spIsNm) (F : Fun K "reads_as_deed" "reads_as_deed" sReads f fd) : FnOk P w K mg base CX0 2 f fd pRds spRds5 := by
  refine fok F scRds (fun vs H Q E h => ?_) (fun cdv A outer s H vs Q E hr h => ?_)
  · obtain ⟨a, w, rfl, _⟩ := h
    rfl
  have hu := hu_of hr
  refine ⟨_, pss_cons (ps_if (pt_not (pt_val (pe_callB call_isiT (by rfl) B.isinstance (by decide +kernel) (pa_cons (pv 0) (pa_cons (pe_tup (pa_cons (pe_bltn (v := .ty "list") (by rfl) B.list (by decide +kernel) rfl) (pa_cons (pe_bltn (v := .ty "tuple") (by rfl) B.tuple (by decide +kernel) rfl) pa_nil))) pa_nil)))))
      (pss_one (ps_ret pe_bl))
      pss_nil)
    (pss_cons (ps_if (pt_cmpR op_eq (pe_callB call_len_seq (by rfl) B.len PySem.boot_len (pa_cons (pv 0) pa_nil)) pe_int (nomark _))
      (pss_one (ps_ret (pe_cmpR op_eq (pe_ix ix_row (pv 0) pe_int (fun _ _ => rfl)) pe_str (nomark _))))
      pss_nil)
    (pss_one (ps_ret (pe_and (pe_cmpR op_eq (pe_callB call_len_seq (by rfl) B.len PySem.boot_len (pa_cons (pv 0) pa_nil)) pe_int (nomark _)) (pe_and (pe_cmpR op_eq (pe_ix ix_row (pv 0) pe_int (fun _ _ => rfl)) pe_str (nomark _)) (pe_one (pe_cal CIn hr (pa_cons (pe_ix ix_row (pv 0) pe_int (fun _ _ => rfl)) pa_nil)))))))), ?_⟩
  obtain ⟨a, w, rfl, hw, lw, q0⟩ := h
  refine ⟨_, rfl, (by show 2 ≤ sizeLine; decide), fun p hp => ?_⟩
  have s1 := same_upd (o := .tup [.ty "list", .ty "tuple"]) hp
  have hw := row_same s1 hw
  obtain ⟨ty, ty1, ty2⟩ := row_isi (K := K) hw
  refine ⟨_, p, _, _, _, _, rfl, upd_same, .cons (.ty _) (.cons (.ty _) .nil), ty1, ty2, _, rfl, iteF ?_⟩
  have q := q0 _ s1
  have q1 : ∀ H', Same (upd H p (.tup [.ty "list", .ty "tuple"])) H' → Q (.bl (deedS w).isSome) H' := fun H' s => q0 _ (s1.trans s)
  generalize upd H p (.tup [.ty "list", .ty "tuple"]) = H1 at hw q q1 ⊢
  clear q0 ty1
  refine ⟨_, rfl, a, _, rfl, hw.sq, rfl, _, rfl, ite2 (fun c => ?_) (fun c => ?_)⟩
  · have l1 : w.length = 1 := by
      have := V.int.inj (of_decide_eq_true c)
      rw [List.length_map] at this
      omega
    obtain ⟨s0, rfl⟩ := List.length_eq_one_iff.mp l1
    refine ⟨_, rfl, a, _, 0, _, rfl, rfl, hw, atI_nat (j := 0) rfl, rfl, ?_⟩
    have e : decide (V.str s0 = V.str "serve") = (deedS [s0]).isSome := by
      show _ = (if s0 = "serve" then some none else (none : Option Deed)).isSome
      by_cases z : s0 = "serve"
      · rw [if_pos z, decide_eq_true (by rw [z])]
        rfl
      · rw [if_neg z, decide_eq_false (fun h => z (V.str.inj h))]
        rfl
    rw [e]
    exact q
  refine ⟨_, rfl, a, _, rfl, hw.sq, rfl, _, rfl, ite2 (fun c2 => ?_) (fun c2 => ?_)⟩
  · have l2 : w.length = 2 := by
      have := V.int.inj (of_decide_eq_true c2)
      rw [List.length_map] at this
      omega
    obtain ⟨d0, d1, rfl⟩ : ∃ d0 d1, w = [d0, d1] := by
      match w, l2 with
      | [d0, d1], _ => exact ⟨d0, d1, rfl⟩
    refine ⟨_, rfl, a, _, 0, _, rfl, rfl, hw, atI_nat (j := 0) rfl, rfl, ?_⟩
    have ed : deedS [d0, d1] = if d0 = "come" ∧ nb d1 = true then some (some d1) else none := rfl
    by_cases z : d0 = "come"
    · subst z
      rw [decide_eq_true rfl]
      refine ⟨_, rfl, iteT ?_⟩
      refine ⟨_, rfl, a, _, 1, _, rfl, rfl, hw, atI_nat (j := 1) rfl, d1, rfl, lw d1 (by simp), fun H2 s2 => ?_⟩
      have e : nb d1 = (deedS ["come", d1]).isSome := by
        rw [ed]
        by_cases k : nb d1 = true
        · rw [if_pos ⟨rfl, k⟩, k]
          rfl
        · rw [if_neg (fun h => k h.2), Bool.eq_false_iff.mpr k]
          rfl
      rw [e]
      exact q1 H2 s2
    · rw [decide_eq_false (fun h => z (V.str.inj h))]
      have e : (deedS [d0, d1]).isSome = false := by
        rw [ed, if_neg (fun h => z h.1)]
        rfl
      rw [e] at q
      exact ⟨_, rfl, iteF q⟩
  · have e : (deedS w).isSome = false := by
      cases hd : deedS w with
      | none => rfl
      | some dd =>
        have h := (deedS_some hd).1
        exfalso
        have hl : w.length = (deedL dd).length := by rw [h]
        cases dd with
        | none => exact c (decide_eq_true (by rw [List.length_map, hl]; rfl))
        | some x => exact c2 (decide_eq_true (by rw [List.length_map, hl]; rfl))
    rw [e] at q
    exact q
/-! ### can_be_done -/
abbrev sCanBe : Stmt := topS 17
abbrev nCbd : List Str := ["deed", "row", "been"]
abbrev pCbd : List Str := ["deed", "row", "been"]
theorem scCbd : FnScope nCbd pCbd (defScope sCanBe) := ⟨rfl, rfl, rfl, by decide +kernel, rfl, by decide +kernel, by decide +kernel⟩
-- slots: 0:deed 1:row 2:been
theorem ok_can5 {f : Addr} {fd : FuncData} (B : Blt mg)  (F : Fun K "can_be_done" "can_be_done" sCanBe f fd) : FnOk P w K mg base CX0 1 f fd pCbd spCan5 := by
  refine fok F scCbd (fun vs H Q E h => ?_) (fun cdv A outer s H vs Q E hr h => ?_)
  · obtain ⟨T, h, d, dd, row, met, rfl, _⟩ := h
    rfl
  have hu := hu_of hr
  refine ⟨_, pss_cons (ps_if (pt_cmpR op_eq (pe_ix ix_row (pv 0) pe_int (fun _ _ => rfl)) pe_str (nomark _))
      (pss_one (ps_ret (pe_cmpR op_gt (pe_callB call_len_seq (by rfl) B.len PySem.boot_len (pa_cons (pv 1) pa_nil)) pe_int (nomark _))))
      pss_nil)
    (pss_one (ps_ret (pe_cmp (pc_dnotin hu (pe_ix ix_row (pv 0) pe_int (fun _ _ => rfl)) (pv 2)) rfl))), ?_⟩
  obtain ⟨T, h, d, dd, row, met, rfl, ht, hh, hd, q⟩ := h
  cases dd with
  | none =>
    have h2 : RowAt H T ["serve"] := ht
    refine ⟨_, rfl, T, _, 0, _, rfl, rfl, h2, atI_nat (j := 0) rfl, rfl, _, rfl, ite2 (fun _ => ?_) (fun c => absurd (decide_eq_true rfl) c)⟩
    refine ⟨_, rfl, h, _, rfl, .inr hh.sq, _, _, rfl, rfl, ?_⟩
    have fin := q H (Same.refl H)
    show Q (.bl (decide ((0 : Int) < (((row.map V.str).length : Nat) : Int)))) _
    have e : decide ((0 : Int) < (((row.map V.str).length : Nat) : Int)) = canS none row met := by
      show _ = decide (row ≠ [])
      rw [List.length_map]
      refine decide_eq_decide.mpr ⟨fun z e => ?_, fun z => ?_⟩
      · rw [e] at z
        exact absurd z (by decide)
      · have := List.length_pos_iff.mpr z
        omega
    rw [e]
    exact fin
  | some x =>
    have h2 : RowAt H T ["come", x] := ht
    refine ⟨_, rfl, T, _, 0, _, rfl, rfl, h2, atI_nat (j := 0) rfl, rfl, _, rfl, ite2 (fun c => absurd c (by decide)) (fun _ => ?_)⟩
    obtain ⟨kvs, k1, k2, k3⟩ := hd
    refine ⟨_, rfl, T, _, 1, _, rfl, rfl, h2, atI_nat (j := 1) rfl, _, rfl, d, _, rfl, DGet.k (k := .inr x) k1, ?_⟩
    rw [k3 x]
    exact q H (Same.refl H)
/-! ### done -/
abbrev sDone : Stmt := topS 18
abbrev nDn : List Str := ["friends", "deeds", "row", "served", "here", "been", "who", "number", "deed"]
abbrev pDn : List Str := ["friends", "deeds", "row"]
theorem scDn : FnScope nDn pDn (defScope sDone) := ⟨rfl, rfl, rfl, by decide +kernel, rfl, by decide +kernel, by decide +kernel⟩
-- slots: 0:friends 1:deeds 2:row 3:served 4:here 5:been 6:who 7:number 8:deed
theorem ok_dn5 {C f fI : Addr} {fd fdI : FuncData} (B : Blt mg) (T : OwnK K mg "BadDeed" "ValueError" "ValueError.__new__" "ValueError.__init__" "ValueError" C fI) (FI : L2.FnOk P w K mg base L2.CX0 1 fI fdI nIBadDeed (spInit1 C "number")) (bI : Binds K fdI nIBadDeed []) (CCbd : Cal P w K mg base 1 "can_be_done" ["deed", "row", "been"] spCan5) (CLe : Cal P w K mg base 5 "let_in" ["friends", "row", "who"] spLetIn) (CRds : Cal P w K mg base 2 "reads_as_deed" ["thing"] spRds5) (F : Fun K "done" "done" sDone f fd) : FnOk P w K mg base (L2.CX P w) 6 f fd pDn (spDone5 C) := by
  refine fokX F scDn (fun vs H Q E h => ?_) (fun cdv A outer s H vs Q E hr h => ?_)
  · obtain ⟨a, p, e, ps, olds, ls, rfl, _⟩ := h
    rfl
  have hu := hu_of hr
  refine ⟨_, pss_cons (ps_set (i := 3) scDn.nd rfl (.inl rfl) (pe_tupF pa_nil))
    (pss_cons (ps_set (i := 4) scDn.nd rfl (.inl rfl) (pe_callTy call_tupRow (by rfl) B.tuple (by decide +kernel) (pa_cons (pv 2) pa_nil)))
    (pss_cons (ps_setDc (i := 5) (own := [("who", 6)]) (g := gName 6) (tt := tYes) (tk := tVar 6) (tv := tC (.bl true)) rfl scDn.nd rfl rfl (by rfl) (pi_tup (pv 4)) (blkOk_by (N := nDn) (sc := defScope sDone) (by decide +kernel)) (fun _ _ _ _ _ => pg_name (i := 6) scDn.nd rfl (Or.inl rfl)) (fun _ _ _ _ _ => pts_nil) (fun _ _ _ _ _ => pv 6) (fun _ _ _ _ _ => pe_bl))
    (pss_cons (ps_for (passes_of rfl) rfl (pi_seqE (i := 1) (by rfl) B.enumerate (pv 1)) (pg_tup rfl (pgs_cons (pg_name (i := 7) scDn.nd rfl (.inl rfl)) (pgs_cons (pg_name (i := 8) scDn.nd rfl (.inl rfl)) pgs_nil)))
      (pss_cons (ps_if (PW.pt (pw_or (pt_not (pt_val (pe_cal CRds hr (pa_cons (pv 8) pa_nil)))) (pw_or1 (pt_not (pt_val (pe_cal CCbd hr (pa_cons (pv 8) (pa_cons (pv 4) (pa_cons (pv 5) pa_nil)))))))))
          (pss_one (ps_raise rfl (takes_of rfl rfl rfl rfl) (pmk_made base_VE T.O T.iC T.tI FI (hr.rm.mono (by decide)) bI pass0 rfl (by rfl) T.g (pa_cons (pv 7) pa_nil))))
          pss_nil)
        (pss_one (ps_if (pt_cmpR op_eq (pe_ix ix_row (pv 8) pe_int (fun _ _ => rfl)) pe_str (nomark _))
          (pss_cons (ps_set (i := 3) scDn.nd rfl (.inl rfl) (pe_op op_catM (pv 3) (pe_slice sl_tupM (pv 4) po_none (po_some pe_int))))
            (pss_one (ps_set (i := 4) scDn.nd rfl (.inl rfl) (pe_slice sl_tupM (pv 4) (po_some pe_int) po_none))))
          (pss_cons (ps_set (i := 4) scDn.nd rfl (.inl rfl) (pe_cal CLe hr (pa_cons (pv 0) (pa_cons (pv 4) (pa_cons (pe_ix ix_row (pv 8) pe_int (fun _ _ => rfl)) pa_nil)))))
            (pss_one (ps_dput hu (pv 5) (pe_ix ix_row (pv 8) pe_int (fun _ _ => rfl)) pe_bl rfl)))))))
    (pss_one (ps_ret (pe_tupF (pa_cons (pv 3) (pa_cons (pv 4) pa_nil)))))))), ?_⟩
  obtain ⟨a, p, e, ps, olds, ls, rfl, ha, hp, hl, tx, okl, he, ln, qn, qe⟩ := h
  have lx := refs5_len ls
  refine ⟨(by show 0 ≤ sizeLine; decide), fun sv0 H1 s1 n1 e1 => ?_⟩
  refine ⟨.ref e, rfl, e, olds, rfl, he.same s1, fun t0 H2 s2 e2 => ?_⟩
  have s02 := s1.trans s2
  refine ⟨.ref t0, rfl, t0, rfl, ⟨_, e2.sq⟩, fun D hD => ?_⟩
  have hD0 : H D = none := s02.free hD
  refine dc_it (walk_tup (xs := olds.map V.str)) (fun i H' => ∃ kvs, Same H2 H' ∧ H' D = some (.dK kvs) ∧ kvs.length ≤ i ∧ ∀ y, (valV kvs (.inr y)).isSome = decide (y ∈ olds.take i)) ?_ ?_ ?_ ?_
  · exact ⟨[], same_upd hD, upd_same, Nat.le_refl _, fun y => by simp [valV]⟩
  · rintro i H' _ ⟨kvs, s3, _⟩
    exact (e2.same s3).sq
  · rintro i v H3' H3 hi ⟨kvs, s3, d3, l3, v3⟩ ⟨rfl, ev⟩
    obtain ⟨z, hz, rfl⟩ := at_map ev
    rw [List.length_map] at hi
    refine ⟨rfl, _, rfl, kvs, .inr z, rfl, d3, small1000 (by omega), putK kvs (.inr z) (.bl true), fun b o w => ?_, upd_same, ?_, fun y => ?_⟩
    · rw [upd_ne (ne_of_none w hD)]
      exact s3 _ _ w
    · have := putK_lenK (kvs := kvs) (k := .inr z) (v := V.bl true)
      omega
    · rw [valV_put, List.take_add_one, hz]
      by_cases c : y = z
      · subst c
        rw [if_pos rfl]
        simp
      · rw [if_neg (fun w => c (Sum.inr.inj w)), v3]
        simp [c]
  rintro H3 ⟨kvs, s3, d3, l3, v3⟩
  rw [List.length_map] at l3 v3
  rw [List.take_of_length_le (Nat.le_refl _)] at v3
  have s03 := s02.trans s3
  refine ⟨p, _, rfl, hl.same s03, fun J G wk gk => ?_⟩
  refine for_it wk (fun i σ H' => ∃ (sv t : Addr) (st' gn' met : List Str) (y6 y7 y8 : Option V), σ = [some (.ref a), some (.ref p), some (.ref e), some (.ref sv), some (.ref t), some (.ref D), y6, y7, y8] ∧ Same H H' ∧ TupAt H' sv (gn'.map V.str) ∧ TupAt H' t (st'.map V.str) ∧ BeenAt H' D met ∧ doneS ps (ls.map (·.2)) (olds, []) olds 0 = doneS ps ((ls.drop i).map (·.2)) (st', gn') met i ∧ (∀ x ∈ st', x ∈ met) ∧ met.length ≤ olds.length + i ∧ st'.length + gn'.length ≤ olds.length + i) ?_ ?_ ?_ ?_
  · exact ⟨sv0, t0, olds, [], olds, _, _, _, rfl, s03, (e1.same s2).same s3, e2.same s3, ⟨kvs, d3, l3, v3⟩, rfl, fun _ h => h, by omega, by show olds.length + 0 ≤ _; omega⟩
  · rintro i σ H' _ ⟨_, _, _, _, _, _, _, _, _, s, _⟩
    exact gk _ ((hl.kept s).trans (hl.kept s03).symm)
  · rintro i v σ H4 H5 hi ⟨sv, t, st', gn', met, y6, y7, y8, rfl, s4, hsv, ht, hb, eqn, m1, lm, lsg⟩ ⟨T1, u1, u2, rfl, nT, rfl, ex1, ex2⟩
    cases ex1
    rw [lx] at hi
    have hdi := List.getElem?_eq_getElem hi
    have ex2' : (refsR5 ls)[i]? = some u2 := ex2
    obtain rfl : V.ref (ls[i]).1 = u2 := Option.some.inj ((refs5_at hdi).symm.trans ex2')
    have md := List.mem_of_getElem? hdi
    rw [List.drop_eq_getElem_cons hi, List.map_cons] at eqn
    clear ex2 ex2'
    generalize ls[i] = d at hdi md eqn ⊢
    obtain ⟨u2, wd⟩ := d
    have tr := tx _ md
    have okd := okl _ md
    have sT := same_upd (o := .tup [.int (i : Nat), .ref u2]) nT
    have s5 := s4.trans sT
    have tr5 := row_same s5 tr
    refine ⟨T1, _, rfl, .inl (.inl upd_same), rfl, _, _, rfl, _, _, rfl, rfl, ?_⟩
    refine ⟨_, rfl, u2, wd, rfl, tr5, okd, fun H6 s6 => ?_⟩
    have s06 := s5.trans s6
    have sT6 := sT.trans s6
    cases ed : deedS wd with
    | none =>
      have qe := qe i (by rw [eqn, doneS_bad ed])
      refine ⟨_, rfl, ?_⟩
      refine ⟨_, rfl, (by show 1 ≤ 1000; decide), fun y hy => ⟨y, _, rfl, upd_same, .inl ⟨((i : Nat) : Int), rfl, Nat.lt_of_le_of_lt (Nat.log2_le_self _) (by rw [Int.natAbs_natCast]; omega)⟩, fun dx h1 h2 => ⟨rfl, .inr ⟨dx, [("number", .int ((i : Nat) : Int))], upd_same, (upd_ne h2).trans upd_same, ?_, ?_⟩⟩⟩⟩
      · rw [upd_ne h2] at h1
        exact h1
      · rw [upd_ne h2] at h1
        refine qe dx _ (fun b o' z => ?_) (s06.free h1) upd_same
        have nb1 : b ≠ dx := ne_of_none z (s06.free h1)
        have nb2 : b ≠ y := ne_of_none z (s06.free hy)
        rw [upd_ne nb1, del_ne nb2, upd_ne nb2, upd_ne nb1, upd_ne nb2]
        exact s06 _ _ z
    | some dd =>
      obtain ⟨e1', e2'⟩ := deedS_some ed
      subst e1'
      refine ⟨_, rfl, ?_⟩
      have tr6 := row_same s6 tr5
      refine ⟨_, rfl, _, rfl, _, rfl, u2, t, D, dd, st', met, rfl, tr6, ht.same sT6, hb.same sT6, fun H7 s7 => ?_⟩
      have sT7 := sT6.trans s7
      have s57 := s06.trans s7
      have h2 := row_same s7 tr6
      cases cc : canS dd st' met with
      | false =>
        have qe := qe i (by rw [eqn, doneS_no ed cc])
        refine ⟨_, rfl, ?_⟩
        refine ⟨_, rfl, (by show 1 ≤ 1000; decide), fun y hy => ⟨y, _, rfl, upd_same, .inl ⟨((i : Nat) : Int), rfl, Nat.lt_of_le_of_lt (Nat.log2_le_self _) (by rw [Int.natAbs_natCast]; omega)⟩, fun dx h1 h2 => ⟨rfl, .inr ⟨dx, [("number", .int ((i : Nat) : Int))], upd_same, (upd_ne h2).trans upd_same, ?_, ?_⟩⟩⟩⟩
        · rw [upd_ne h2] at h1
          exact h1
        · rw [upd_ne h2] at h1
          refine qe dx _ (fun b o' z => ?_) (s57.free h1) upd_same
          have nb1 : b ≠ dx := ne_of_none z (s57.free h1)
          have nb2 : b ≠ y := ne_of_none z (s57.free hy)
          rw [upd_ne nb1, del_ne nb2, upd_ne nb2, upd_ne nb1, upd_ne nb2]
          exact s57 _ _ z
      | true =>
        refine ⟨_, rfl, ?_⟩
        cases dd with
        | none =>
          have eqn2 := eqn.trans (doneS_serve ed cc)
          have h2 : RowAt H7 u2 ["serve"] := h2
          refine ⟨_, rfl, u2, _, 0, _, rfl, rfl, h2, atI_nat (j := 0) rfl, rfl, _, rfl, ite2 (fun _ => ?_) (fun c => absurd (decide_eq_true rfl) c)⟩
          refine ⟨_, rfl, _, rfl, _, rfl, t, _, rfl, ht.same sT7, fun t1 H8 s8 e8 => ?_⟩
          rw [show (1 : Int) = ((1 : Nat) : Int) from rfl, cutV_map, cutL_to] at e8
          refine ⟨sv, t1, _, _, rfl, rfl, (hsv.same sT7).same s8, e8, ?_, fun t2 H9 s9 e9 => ?_⟩
          · rw [List.length_map, List.length_map, List.length_take]
            exact small_le (by omega)
          rw [← List.map_append] at e9
          have s79 := s8.trans s9
          refine ⟨_, rfl, _, rfl, t, _, rfl, (ht.same sT7).same s79, fun t3 H10 s10 e10 => ?_⟩
          rw [show (1 : Int) = ((1 : Nat) : Int) from rfl, cutV_map, cutL_from] at e10
          refine ⟨t2, t3, st'.drop 1, gn' ++ st'.take 1, met, _, _, _, rfl, (s57.trans s79).trans s10, e9.same s10, e10, hb.same ((sT7.trans s79).trans s10), eqn2, (fun x h => m1 x (List.mem_of_mem_drop h)), by omega, ?_⟩
          rw [List.length_append, List.length_drop, List.length_take]
          omega
        | some x =>
          have eqn2 := eqn.trans (doneS_come ed cc)
          have h2 : RowAt H7 u2 ["come", x] := h2
          have c : x ∉ met := by
            have cc' : (!decide (x ∈ met)) = true := cc
            intro z
            rw [decide_eq_true z] at cc'
            cases cc'
          refine ⟨_, rfl, u2, _, 0, _, rfl, rfl, h2, atI_nat (j := 0) rfl, rfl, _, rfl, ite2 (fun c => absurd c (by decide)) (fun _ => ?_)⟩
          refine ⟨_, rfl, _, rfl, _, rfl, u2, _, 1, _, rfl, rfl, h2, atI_nat (j := 1) rfl, a, t, ps, st', x, rfl, ha.same s57, hp, .inl (ht.same sT7), by omega, (fun z => c (m1 x z)), fun t1 H8 s8 e8 => ?_⟩
          obtain ⟨kvs', k1, k2, k3⟩ := (hb.same sT7).same s8
          have h28 := row_same s8 h2
          refine ⟨_, rfl, _, rfl, u2, _, 1, _, rfl, rfl, h28, atI_nat (j := 1) rfl, D, _, rfl, DPut.k (k := .inr x) k1 (small9 (by omega)), ?_⟩
          have cp := come_perm ps st' x
          refine ⟨sv, t1, comeTo ps st' x, gn', met ++ [x], _, _, _, rfl, fun b o w => ?_, ((hsv.same sT7).same s8).updK k1, e8.updK k1, ⟨_, upd_same, ?_, fun y => ?_⟩, eqn2, (fun y h => ?_), ?_, ?_⟩
          · rw [upd_ne (ne_of_none w hD0)]
            exact s8 _ _ (s57 _ _ w)
          · have := putK_lenK (kvs := kvs') (k := .inr x) (v := V.bl true)
            rw [List.length_append]
            show _ ≤ _ + 1
            omega
          · rw [valV_put]
            by_cases cy : y = x
            · subst cy
              rw [if_pos rfl]
              simp
            · rw [if_neg (fun w => cy (Sum.inr.inj w)), k3]
              refine decide_eq_decide.mpr ⟨fun z => List.mem_append_left _ z, fun z => ?_⟩
              rcases List.mem_append.mp z with u | u
              · exact u
              · have : y ∈ [x] := u
                exact absurd (List.mem_singleton.mp this) cy
          · rcases List.mem_cons.mp (cp.mem_iff.mp h) with z | z
            · rw [z]
              exact List.mem_append_right _ List.mem_cons_self
            · exact List.mem_append_left _ (m1 y z)
          · rw [List.length_append]
            show _ + 1 ≤ _
            omega
          · have := cp.length_eq
            rw [List.length_cons] at this
            omega
  · rintro σ H5 ⟨sv, t, st', gn', met, y6, y7, y8, rfl, s5, hsv, ht, hb, eqn, m1, lm, lsg⟩
    rw [lx, List.drop_of_length_le (Nat.le_refl _)] at eqn
    have eqn : doneS ps (ls.map (·.2)) (olds, []) olds 0 = .inr (st', gn') := eqn
    exact ⟨_, rfl, _, rfl, (by show 2 ≤ sizeLine; decide), fun T H6 s6 n6 e6 => qn st' gn' eqn T sv t H6 (s5.trans s6) e6 (hsv.same s6) (ht.same s6)⟩
/-! ### done, of no deeds -/
theorem ok_dn0 {f : Addr} {fd : FuncData} (B : Blt mg) (CCbd : Cal P w K mg base 1 "can_be_done" ["deed", "row", "been"] spCan5) (CLe : Cal P w K mg base 5 "let_in" ["friends", "row", "who"] spLetIn) (CRds : Cal P w K mg base 2 "reads_as_deed" ["thing"] spRds5) (F : Fun K "done" "done" sDone f fd) : FnOk P w K mg base CX0 6 f fd pDn (spDone0 K) := by
  refine fok F scDn (fun vs H Q E h => ?_) (fun cdv A outer s H vs Q E hr h => ?_)
  · obtain ⟨a, p, e, rfl, _⟩ := h
    rfl
  have hu := hu_of hr
  refine ⟨_, pss_cons (ps_set (i := 3) scDn.nd rfl (.inl rfl) (pe_tupF pa_nil))
    (pss_cons (ps_set (i := 4) scDn.nd rfl (.inl rfl) (pe_callTy call_tupleF (by rfl) B.tuple (by decide +kernel) (pa_cons (pv 2) pa_nil)))
    (pss_cons (ps_setDc (i := 5) (own := [("who", 6)]) (g := gName 6) (tt := tYes) (tk := tVar 6) (tv := tC (.bl true)) rfl scDn.nd rfl rfl (by rfl) (pi_tup (pv 4)) (blkOk_by (N := nDn) (sc := defScope sDone) (by decide +kernel)) (fun _ _ _ _ _ => pg_name (i := 6) scDn.nd rfl (Or.inl rfl)) (fun _ _ _ _ _ => pts_nil) (fun _ _ _ _ _ => pv 6) (fun _ _ _ _ _ => pe_bl))
    (pss_cons (ps_for PassesOwn.never rfl (pi_enum (by rfl) B.enumerate (pa_cons (pv 1) pa_nil)) (pg_tup rfl (pgs_cons (pg_name (i := 7) scDn.nd rfl (.inl rfl)) (pgs_cons (pg_name (i := 8) scDn.nd rfl (.inl rfl)) pgs_nil)))
      (pss_cons (ps_if (PW.pt (pw_or (pt_not (pt_val (pe_cal CRds hr (pa_cons (pv 8) pa_nil)))) (pw_or1 (pt_not (pt_val (pe_cal CCbd hr (pa_cons (pv 8) (pa_cons (pv 4) (pa_cons (pv 5) pa_nil)))))))))
          (pss_one ps_never)
          pss_nil)
        (pss_one (ps_if (pt_cmpR op_eq (pe_ix ix_row (pv 8) pe_int (fun _ _ => rfl)) pe_str (nomark _))
          (pss_cons (ps_set (i := 3) scDn.nd rfl (.inl rfl) (pe_op op_catM (pv 3) (pe_slice sl_tupM (pv 4) po_none (po_some pe_int))))
            (pss_one (ps_set (i := 4) scDn.nd rfl (.inl rfl) (pe_slice sl_tupM (pv 4) (po_some pe_int) po_none))))
          (pss_cons (ps_set (i := 4) scDn.nd rfl (.inl rfl) (pe_cal CLe hr (pa_cons (pv 0) (pa_cons (pv 4) (pa_cons (pe_ix ix_row (pv 8) pe_int (fun _ _ => rfl)) pa_nil)))))
            (pss_one (ps_dput hu (pv 5) (pe_ix ix_row (pv 8) pe_int (fun _ _ => rfl)) pe_bl rfl)))))))
    (pss_one (ps_ret (pe_tupF (pa_cons (pv 3) (pa_cons (pv 4) pa_nil)))))))), ?_⟩
  obtain ⟨a, p, e, rfl, hl, he, q⟩ := h
  refine ⟨(by show 0 ≤ sizeLine; decide), fun sv0 H1 s1 n1 e1 => ?_⟩
  refine ⟨.ref e, rfl, e, _, rfl, .inr ⟨he.sq H1, ?_⟩⟩
  refine ⟨.ref e, rfl, e, rfl, ⟨_, he.sq H1⟩, fun D hD => ?_⟩
  refine dc_it (walk_tup (xs := [])) (fun i H' => Same H1 H' ∧ H' D = some (.dK [])) ?_ ?_ ?_ ?_
  · exact ⟨same_upd hD, upd_same⟩
  · rintro i H' _ ⟨s3, _⟩
    exact he.sq H'
  · rintro i v H3' H3 hi
    exact absurd hi (Nat.not_lt_zero _)
  rintro H3 ⟨s3, d3⟩
  have s03 := s1.trans s3
  refine ⟨_, rfl, p, _, rfl, .inl (.inl (s03 _ _ hl)), ?_⟩
  refine for_it (walk_enum (xs := [])) (fun i σ H' => σ = [some (.ref a), some (.ref p), some (.ref e), some (.ref sv0), some (.ref e), some (.ref D), none, none, none] ∧ H' = H3) ?_ ?_ ?_ ?_
  · exact ⟨rfl, rfl⟩
  · rintro i σ H' _ ⟨_, rfl⟩
    exact .inl (.inl (s03 _ _ hl))
  · rintro i v σ H4 H5 hi
    exact absurd hi (Nat.not_lt_zero _)
  · rintro σ H5 ⟨rfl, rfl⟩
    exact ⟨_, rfl, _, rfl, (by show 2 ≤ sizeLine; decide), fun T H6 s6 n6 e6 => q T sv0 H6 (s03.trans s6) e6 ((e1.same s3).same s6)⟩
/-! ### _law_asked -/
abbrev sAsk17 : Stmt := topS 34
abbrev nAsk : List Str := ["_law_ask", "_law_found", "_law_caught", "error", "_law_fine"]
abbrev pAsk : List Str := ["_law_ask"]
theorem scAsk : FnScope nAsk pAsk (defScope sAsk17) := ⟨rfl, rfl, rfl, by decide +kernel, rfl, by decide +kernel, by decide +kernel⟩
theorem asked_gives {X : Cx} {CD CA CT fI g : Addr} {cdg : Value} {q : Str} (B : Blt X.mg) (TD : OwnK X.K X.mg "BadDeed" "ValueError" "ValueError.__new__" "ValueError.__init__" "ValueError" CD fI) (TA : ClsK X.K X.mg "Astray" CA) (TB : ClsK X.K X.mg "BadText" CT)
    (noN : PySem.W.findIn X.K (.ref CD) "number" = some none) (nA : PySem.W.subIn X.K (.ref CD) (.ref CA) = some false) (nT : PySem.W.subIn X.K (.ref CD) (.ref CT) = some false) :
    GivesTo X nAsk "_law_asked" (defScope sAsk17) g cdg (defBody sAsk17) "_law_ask" q (TTask CD) := by
  intro f c' s H Q tl act hc h
  refine ⟨_, pss_cons (ps_asg (X := (cxOf C8.CX0 X.prog X.w X.K X.mg X.base nAsk "_law_asked" (defScope sAsk17) g cdg X.A X.stack s H C8.E0).nox) (pe_tup (pa_cons pe_non (pa_cons pe_non pa_nil))) (pg_tup (by rfl) (pgs_cons (pg_name (i := 1) scAsk.nd rfl (.inl rfl)) (pgs_cons (pg_name (i := 2) scAsk.nd rfl (.inl rfl)) pgs_nil))))
    (pss_cons (ps_try_asT (cs := [.ref CD, .ref CA, .ref CT]) (i := 3) (tb := fun W D σ H => ∃ Ech : XK, (∀ cls d σ' H', σ'.length = 5 → Ech cls d H' → W cls d σ' H') ∧ σ[0]? = some (some (.ref f)) ∧ H c' = some (CodeO c' q) ∧ tl Ech H (fun v H' => D.nx (σ.set 1 (some v)) H')) (ts := fun a cls d => tAsg (tVar 3) (gName 2)) rfl rfl rfl scAsk.nd rfl rfl (by decide) (.cons ⟨rfl, by decide, .inl TD.g⟩ (.cons ⟨rfl, by decide, .inl TA.g⟩ (.cons ⟨rfl, by decide, .inl TB.g⟩ .nil))) L2.takes0
      (fun W pn xe tk _ => ?_)
      (fun a oe cls d pn _ _ => pss_one (ps_set (i := 2) scAsk.nd rfl (.inl rfl) (pv 3))))
    (pss_cons (ps_if (pt_cmp (pc_isN (pv 2))) (pss_one (ps_ret (pv 1))) pss_nil)
    (pss_cons (ps_set (i := 4) scAsk.nd rfl (.inl rfl) (pe_and (pe_callB call_isV (by rfl) B.isinstance (by decide +kernel) (pa_cons (pv 2) (pa_cons (pe_glob (v := .ref CD) rfl TD.g rfl) pa_nil))) (pe_and (pe_callB call_isV (by rfl) B.isinstance (by decide +kernel) (pa_cons (pv 2) (pa_cons (pe_bltn (v := .ty "ValueError") (by rfl) TD.nB PyProof.Rows.Boot.«ValueError» rfl) pa_nil))) (pe_one (pe_not (pe_callB call_isVT (by rfl) B.isinstance (by decide +kernel) (pa_cons (pv 2) (pa_cons (pe_tup (pa_cons (pe_glob (v := .ref CA) rfl TA.g rfl) (pa_cons (pe_glob (v := .ref CT) rfl TB.g rfl) pa_nil))) pa_nil))))))))
    (pss_one (ps_ret (pe_ifExp (pt_val (pv 4)) (pe_xv (pv 2)) pe_non)))))), ?_⟩
  · refine pss_one ⟨fun pins s' σ H' D I h' => ?_⟩
    obtain ⟨Ech, hW, h1, h2, h3⟩ := h'
    exact (ps_set (i := 1) scAsk.nd rfl (.inl rfl) (act (fun c d σ H => σ.length = 5 → W c d σ H) pn xe Ech _ _ (takes_len tk) (fun cls d σ' H' e l => hW cls d σ' H' l e))).run pins s' σ H' D I ⟨h1, h2, h3⟩
  · refine ⟨(by show 2 ≤ sizeLine; decide), fun tq htq => ?_⟩
    have s0 := same_upd (o := .tup [.non, .non]) htq
    refine ⟨tq, _, rfl, .inl (.inl upd_same), rfl, _, _, rfl, _, _, rfl, rfl, ?_⟩
    refine ⟨_, ?_, rfl, s0 _ _ hc, h _ _ s0 ?_⟩
    · rintro cls d σ' H' l ⟨ec, x, i, ed, hx, hq⟩
      subst ec
      subst ed
      obtain ⟨y0, y1, y2, y3, y4, rfl⟩ : ∃ y0 y1 y2 y3 y4, σ' = [y0, y1, y2, y3, y4] := by
        match σ', l with
        | [y0, y1, y2, y3, y4], _ => exact ⟨y0, y1, y2, y3, y4, rfl⟩
      refine ⟨true, exm_cons (TD.exm TD.self) (exm_cons (TA.exm nA) (exm_cons (TB.exm nT) exm_nil)), fun _ z hz => ?_, fun z => nomatch z⟩
      refine ⟨_, rfl, fun nz => ?_⟩
      have s2 := same_upd (o := ExV (.ref CD) (some x) z) nz
      have hd : Held (upd H' z (ExV (.ref CD) (some x) z)) z CD [("number", .int i)] := ⟨some x, upd_same, .inr ⟨x, rfl, s2 _ _ hx⟩⟩
      refine ⟨_, rfl, _, rfl, ?_⟩
      refine iteF ?_
      refine ⟨_, rfl, z, CD, _, _, _, true, rfl, hd, TD.E, .own _, TD.one TD.self, _, rfl, ?_⟩
      refine ⟨_, rfl, z, CD, _, _, _, true, rfl, hd, TD.E, .ty _, kit_base (by decide +kernel) TD.sB, _, rfl, ?_⟩
      refine ⟨_, rfl, (by show 2 ≤ sizeLine; decide), fun tp htp => ?_⟩
      have s3 := same_upd (o := .tup [.ref CA, .ref CT]) htp
      refine ⟨z, CD, tp, _, _, _, false, rfl, upd_same, hd.same s3, TD.E, .cons (.own _) (.cons (.own _) .nil), kitAny_cons (b := false) (TA.one nA) (fun _ => kitAny_cons (b := false) (TB.one nT) (fun _ => kitAny_nil) (fun z => nomatch z)) (fun z => nomatch z), _, rfl, ?_⟩
      refine ⟨_, rfl, _, rfl, ?_⟩
      exact iteT ⟨_, rfl, z, CD, _, .int i, rfl, hd.same s3, TD.xf, noN, rfl, hq _ (s2.trans s3)⟩
    · intro v H' hv
      refine ⟨_, rfl, _, rfl, ?_⟩
      exact iteT ⟨_, rfl, hv⟩
theorem asked_call {X : Cx} {T : List (Addr × Str)} {CD CA CT fI g c PT : Addr} {fdg : FuncData} {k : Nat} {params : Arguments} {body : Expr} {scope : Scope} {t : XK → TE} {p lpos pos : Pos} (B : Blt X.mg) (TD : OwnK X.K X.mg "BadDeed" "ValueError" "ValueError.__new__" "ValueError.__init__" "ValueError" CD fI) (TA : ClsK X.K X.mg "Astray" CA) (TB : ClsK X.K X.mg "BadText" CT)
    (noN : PySem.W.findIn X.K (.ref CD) "number" = some none) (nA : PySem.W.subIn X.K (.ref CD) (.ref CA) = some false) (nT : PySem.W.subIn X.K (.ref CD) (.ref CT) = some false)
    (FG : Fun X.K "_law_asked" "_law_asked" sAsk17 g fdg) (gG : X.mg "_law_asked" = some (.ref g)) (bG : L2.Binds X.K fdg ["_law_ask"] []) (TT : TabB X.base X.mg c PT) (hcode : X.env.code = .ref c) (hmT : (PT, X.env.qual ++ "<lambda>") ∈ T) (hu : ∀ p ∈ T, p.1 = PT → p.2 = X.env.qual ++ "<lambda>") (hr : Room (k + 2) X.A)
    (L : LamS X.env.scope scope) (hg : Gl X "_law_asked") (hdef : defaultsOf params X.env = ([], [])) (hbind : ∀ (q : Str) (cl : List (Str × Addr)) (pm cv ctv : Value), bindArgs (PySem.W.kla_fn "<lambda>" q params body scope cl pm cv ctv) ⟨[], []⟩ = pure [])
    (hbody : ∀ (A : Around) (outer : List Env) (s : Shared) (H : Hp) (E : XK) (f c' : Addr), Room k (A.deeper (lamEnv X scope s.heap.objs.size f c')) → PE (lamCx X A outer s H E scope f c') body (t E)) :
    PE X (.Call (.Name "_law_asked" p) [.Lambda params body scope lpos] [] pos) (tLam T (TTask CD) t) := by
  have kp := FG.kp
  obtain ⟨oc, od, kV, doc, pm, an, cd, ct, osl, rfl, lk, hcg⟩ := FG.ex
  exact pe_lamcall (k := k) hg gG kp lk hcg bG scAsk rfl (.inl rfl) (asked_gives B TD TA TB noN nA nT) TT hcode hmT hu hr.rm L hdef hbind (fun A outer s H E f c' z => hbody A outer s H E f c' ⟨z, trivial⟩) (by decide) (by decide) (by decide)
/-! ### _law_due -/
abbrev sDue : Stmt := topS 33
abbrev nDue : List Str := ["_law_pals_here", "_law_stand", "_law_some", "_law_out", "_law_met", "_law_number", "_law_deed"]
abbrev pDue : List Str := ["_law_pals_here", "_law_stand", "_law_some"]
theorem scDue : FnScope nDue pDue (defScope sDue) := ⟨rfl, rfl, rfl, by decide +kernel, rfl, by decide +kernel, by decide +kernel⟩
-- slots: 0:pals_here 1:stand 2:some 3:out 4:met 5:number 6:deed
theorem ok_due5 {f : Addr} {fd : FuncData} (B : Blt mg) (CCo : Cal P w K mg base 2 "_law_come" ["_law_pals_here", "_law_stand", "_law_name"] spCome) (F : Fun K "_law_due" "_law_due" sDue f fd) : FnOk P w K mg base CX0 3 f fd pDue spDue5 := by
  refine fok F scDue (fun vs H Q E h => ?_) (fun cdv A outer s H vs Q E hr h => ?_)
  · obtain ⟨a, t, p, ps, olds, ls, rfl, _⟩ := h
    rfl
  have hu := hu_of hr
  refine ⟨_, pss_cons (ps_par (i := 3) (j := 4) (by rfl) scDue.nd rfl rfl (by decide) rfl rfl (pa_cons (pe_tupF pa_nil) (pa_cons (pe_callTy call_list_of (by rfl) B.list (by decide +kernel) (pa_cons (pv 1) pa_nil)) pa_nil)) (by rfl))
    (pss_cons (ps_for PassesOwn.never rfl (pi_enum (by rfl) B.enumerate (pa_cons (pv 2) pa_nil)) (pg_tup rfl (pgs_cons (pg_name (i := 5) scDue.nd rfl (.inl rfl)) (pgs_cons (pg_name (i := 6) scDue.nd rfl (.inl rfl)) pgs_nil)))
      (pss_one (ps_if (PW.pt (pw_and (pt_cmpR (op_eqT hr.units) (pv 6) (pe_tupF (pa_cons pe_str pa_nil)) (nomark _)) (pw_and1 (pt_cmpR op_gt (pe_callB call_len_seq (by rfl) B.len PySem.boot_len (pa_cons (pv 1) pa_nil)) pe_int (nomark _)))))
          (pss_one (ps_par (i := 3) (j := 1) (by rfl) scDue.nd rfl rfl (by decide) rfl rfl (pa_cons (pe_op op_catM (pv 3) (pe_slice sl_tupM (pv 1) po_none (po_some pe_int))) (pa_cons (pe_slice sl_tupM (pv 1) (po_some pe_int) po_none) pa_nil)) (by rfl)))
          (pss_one (ps_if (PW.pt (pw_and (pt_cmpR op_eq (pe_callB call_len_seq (by rfl) B.len PySem.boot_len (pa_cons (pv 6) pa_nil)) pe_int (nomark _)) (pw_and (pt_cmpR op_eq (pe_ix ix_tup (pv 6) pe_int (fun _ _ => rfl)) pe_str (nomark _)) (pw_and (pt_cmpR op_notIn_seq (pe_ix ix_tup (pv 6) pe_int (fun _ _ => rfl)) (pv 4) (by rfl)) (pw_and1 (pt_val (pe_bm0 PySem.F.plainAttrs_str PySem.F.slot_str_islower PySem.F.type_str_islower mt_islower (pe_ix ix_tup (pv 6) pe_int (fun _ _ => rfl)))))))))
              (pss_cons (ps_expr (pe_bm PySem.F.plainAttrs_list PySem.F.slot_list_append PySem.F.type_list_append mt_append (pv 4) (pa_cons (pe_ix ix_tup (pv 6) pe_int (fun _ _ => rfl)) pa_nil)))
                (pss_one (ps_set (i := 1) scDue.nd rfl (.inl rfl) (pe_cal CCo hr (pa_cons (pv 0) (pa_cons (pv 1) (pa_cons (pe_ix ix_tup (pv 6) pe_int (fun _ _ => rfl)) pa_nil)))))))
              (pss_one (ps_ret (pv 5))))))))
    (pss_one (ps_ret (pe_tupF (pa_cons (pv 3) (pa_cons (pv 1) pa_nil)))))), ?_⟩
  obtain ⟨a, t, p, ps, olds, ls, rfl, ha, hpo, ht, go, hl, tx, tk, ln, qn, qi⟩ := h
  have lx := refs5_len ls
  refine ⟨(by show 0 ≤ sizeLine; decide), fun t0 H1 s1 n1 e1 => ?_⟩
  refine ⟨.ref t, rfl, t, _, rfl, .inr (ht.same s1).sq, fun M hM => ?_⟩
  have hM0 : H M = none := s1.free hM
  have s2 := same_upd (o := .lst (olds.map V.str)) hM
  have e2 : upd H1 M (.lst (olds.map V.str)) M = some (.lst (olds.map V.str)) := upd_same
  generalize upd H1 M (.lst (olds.map V.str)) = H2 at s2 e2 ⊢
  have s02 := s1.trans s2
  refine ⟨_, _, rfl, .ref p, rfl, p, _, rfl, .inl (.inl (s02 _ _ hl)), ?_⟩
  refine for_it (walk_enum (xs := refsR5 ls)) (fun i σ H' => ∃ (ot st : Addr) (st' gn' met : List Str) (y5 y6 : Option V), σ = [some (.ref a), some (.ref st), some (.ref p), some (.ref ot), some (.ref M), y5, y6] ∧ Same H H' ∧ TupAt H' ot (gn'.map V.str) ∧ TupAt H' st (st'.map V.str) ∧ H' M = some (.lst (met.map V.str)) ∧ doneS ps (ls.map (·.2)) (olds, []) olds 0 = doneS ps ((ls.drop i).map (·.2)) (st', gn') met i ∧ Goods st' ∧ met.length ≤ olds.length + i ∧ st'.length + gn'.length ≤ olds.length + i) ?_ ?_ ?_ ?_
  · exact ⟨t0, t, olds, [], olds, _, _, rfl, s02, e1.same s2, ht.same s02, e2, rfl, go, by omega, by show olds.length + 0 ≤ _; omega⟩
  · rintro i σ H' _ ⟨_, _, _, _, _, _, _, _, s, _⟩
    exact .inl (.inl (s _ _ hl))
  · rintro i v σ H4 H5 hi ⟨ot, st, st', gn', met, y5, y6, rfl, s4, hot, hst, hm, eqn, gst, lm, lsg⟩ ⟨T1, u1, u2, rfl, nT, rfl, ex1, ex2⟩
    cases ex1
    rw [lx] at hi
    have hdi := List.getElem?_eq_getElem hi
    have ex2' : (refsR5 ls)[i]? = some u2 := ex2
    obtain rfl : V.ref (ls[i]).1 = u2 := Option.some.inj ((refs5_at hdi).symm.trans ex2')
    have md := List.mem_of_getElem? hdi
    rw [List.drop_eq_getElem_cons hi, List.map_cons] at eqn
    clear ex2 ex2'
    generalize ls[i] = d at hdi md eqn ⊢
    obtain ⟨d, wd⟩ := d
    have tr : TupAt H d (wd.map V.str) := tx _ md
    obtain ⟨lw, gw⟩ : wd.length ≤ 2 ∧ ∀ x ∈ wd, NameOk x ∨ x = "A" := tk _ md
    have gwd : Goods wd := fun x hx => (gw x hx).elim (fun h => h.good) (fun h => by rw [h]; exact good_A)
    have sT := same_upd (o := .tup [.int (i : Nat), .ref d]) nT
    have s5 := s4.trans sT
    have eT : upd H4 T1 (.tup [.int (i : Nat), .ref d]) T1 = some (.tup [.int (i : Nat), .ref d]) := upd_same
    generalize upd H4 T1 (.tup [.int (i : Nat), .ref d]) = H5 at sT s5 eT ⊢
    have tr5 := tr.same s5
    have hM5 := sT _ _ hm
    have gsv : Goods ["serve"] := fun x hx => by rw [List.mem_singleton.mp hx]; exact good_serve
    refine ⟨T1, _, rfl, .inl (.inl eT), rfl, _, _, rfl, _, _, rfl, rfl, ?_⟩
    refine ⟨.ref d, rfl, (by show 1 ≤ sizeLine; decide), fun p0 H6 s6 n6 t6 => ?_⟩
    have s06 := s5.trans s6
    have tr6 := tr5.same s6
    have st6 := (hst.same sT).same s6
    have ot6 := (hot.same sT).same s6
    have m6 := s6 _ _ hM5
    have no : doneS ps (ls.map (·.2)) (olds, []) olds 0 = .inl i → Q (.int (i : Nat)) H6 := fun e => qi i e H6 s06
    refine ⟨d, p0, wd, ([("serve" : Str)] : List Str), rfl, rfl, tr6, t6, gwd, gsv, _, rfl, ?_⟩
    by_cases ew : wd = ([("serve" : Str)] : List Str)
    · subst ew
      rw [decide_eq_true rfl]
      refine iteT ?_
      have ed : deedS ["serve"] = some none := rfl
      refine ⟨_, rfl, st, _, rfl, .inr st6.sq, _, _, rfl, rfl, _, rfl, ?_⟩
      by_cases e0 : st' = []
      · subst e0
        refine iteF ?_
        refine ⟨_, rfl, d, _, rfl, .inr tr6.sq, rfl, _, rfl, ?_⟩
        refine iteF ?_
        exact ⟨_, rfl, no (eqn.trans (doneS_no ed rfl))⟩
      · have cc : canS none st' met = true := decide_eq_true e0
        have eqn2 := eqn.trans (doneS_serve ed cc)
        have l0 := List.length_pos_iff.mpr e0
        rw [List.length_map, decide_eq_true (by omega)]
        refine iteT ?_
        refine ⟨_, rfl, _, rfl, _, rfl, st, _, rfl, st6, fun t1 H8 s8 e8 => ?_⟩
        rw [show (1 : Int) = ((1 : Nat) : Int) from rfl, cutV_map, cutL_to] at e8
        refine ⟨ot, t1, _, _, rfl, rfl, ot6.same s8, e8, ?_, fun t2 H9 s9 e9 => ?_⟩
        · rw [List.length_map, List.length_map, List.length_take]
          exact small_le (by omega)
        rw [← List.map_append] at e9
        have s79 := s8.trans s9
        refine ⟨_, rfl, _, rfl, st, _, rfl, st6.same s79, fun t3 H10 s10 e10 => ?_⟩
        rw [show (1 : Int) = ((1 : Nat) : Int) from rfl, cutV_map, cutL_from] at e10
        refine ⟨_, _, rfl, t2, t3, st'.drop 1, gn' ++ st'.take 1, met, _, _, rfl, (s06.trans s79).trans s10, e9.same s10, e10, (s79.trans s10) _ _ m6, eqn2, fun x hx => gst x (List.mem_of_mem_drop hx), by omega, ?_⟩
        rw [List.length_append, List.length_drop, List.length_take]
        omega
    · rw [decide_eq_false ew]
      refine iteF ?_
      refine ⟨_, rfl, d, _, rfl, .inr tr6.sq, rfl, _, rfl, ite2 (fun c => ?_) (fun c => ?_)⟩
      · have l2 : wd.length = 2 := by
          have := V.int.inj (of_decide_eq_true c)
          rw [List.length_map] at this
          omega
        obtain ⟨d0, d1, rfl⟩ : ∃ d0 d1, wd = [d0, d1] := by
          match wd, l2 with
          | [d0, d1], _ => exact ⟨d0, d1, rfl⟩
        have ed : deedS [d0, d1] = if d0 = "come" ∧ nb d1 = true then some (some d1) else none := rfl
        refine ⟨_, rfl, d, _, 0, _, rfl, rfl, tr6.sq, atI_nat (j := 0) rfl, rfl, _, rfl, ?_⟩
        by_cases z : d0 = "come"
        · subst z
          rw [decide_eq_true rfl]
          refine iteT ?_
          refine ⟨_, rfl, d, _, 1, _, rfl, rfl, tr6.sq, atI_nat (j := 1) rfl, _, rfl, M, _, rfl, .inl (.inl (.inl m6)), rfl, flat_strs _, _, rfl, ?_⟩
          rw [inV_strs]
          have el := lower_nb (gw d1 (by simp))
          by_cases mm : d1 ∈ met
          · rw [decide_eq_true mm]
            refine iteF ?_
            refine ⟨_, rfl, no ?_⟩
            rw [eqn]
            by_cases k : nb d1 = true
            · exact doneS_no (dd := some d1) (by rw [ed, if_pos ⟨rfl, k⟩]) (by show (!decide (d1 ∈ met)) = false; rw [decide_eq_true mm]; rfl)
            · exact doneS_bad (by rw [ed, if_neg (fun h => k h.2)])
          · rw [decide_eq_false mm]
            refine iteT ?_
            refine ⟨_, rfl, d, _, 1, _, rfl, rfl, tr6.sq, atI_nat (j := 1) rfl, rfl, d1, rfl, rfl, trivial, _, rfl, ?_⟩
            rw [el]
            by_cases k : nb d1 = true
            · rw [k]
              refine iteT ?_
              have ed2 : deedS ["come", d1] = some (some d1) := by rw [ed, if_pos ⟨rfl, k⟩]
              have eqn2 := eqn.trans (doneS_come ed2 (by show (!decide (d1 ∈ met)) = true; rw [decide_eq_false mm]; rfl))
              refine ⟨.ref M, rfl, .inl ⟨rfl, _, .inl (.inl m6)⟩, _, rfl, d, _, 1, _, rfl, rfl, tr6.sq, atI_nat (j := 1) rfl, M, _, _, rfl, rfl, m6, (by rw [List.length_map]; exact small_le (by omega)), ?_⟩
              have s7 : Same H (upd H6 M (.lst (met.map V.str ++ [.str d1]))) := fun b o w => by
                rw [upd_ne (ne_of_none w hM0)]
                exact s06 _ _ w
              have e7 : upd H6 M (.lst (met.map V.str ++ [.str d1])) M = some (.lst ((met ++ [d1]).map V.str)) := by
                rw [List.map_append]
                exact upd_same
              have st7 := st6.updL (o' := .lst (met.map V.str ++ [.str d1])) m6
              have ot7 := ot6.updL (o' := .lst (met.map V.str ++ [.str d1])) m6
              have tr7 := tr6.updL (o' := .lst (met.map V.str ++ [.str d1])) m6
              generalize upd H6 M (.lst (met.map V.str ++ [.str d1])) = H7 at s7 e7 st7 ot7 tr7 ⊢
              refine ⟨_, rfl, _, rfl, _, rfl, d, _, 1, _, rfl, rfl, tr7.sq, atI_nat (j := 1) rfl, a, st, ps, st', d1, rfl, ha.same s7, hpo, st7, gst, gwd d1 (by simp), by omega, fun t2 H8 s8 e8 => ?_⟩
              refine ⟨ot, t2, comeTo ps st' d1, gn', met ++ [d1], _, _, rfl, s7.trans s8, ot7.same s8, e8, s8 _ _ e7, eqn2, fun y hy => ?_, ?_, ?_⟩
              · rcases List.mem_cons.mp ((come_perm ps st' d1).mem_iff.mp hy) with z | z
                · rw [z]
                  exact gwd d1 (by simp)
                · exact gst y z
              · rw [List.length_append]
                show _ + 1 ≤ _
                omega
              · have := (come_perm ps st' d1).length_eq
                rw [List.length_cons] at this
                omega
            · rw [Bool.eq_false_iff.mpr k]
              refine iteF ?_
              exact ⟨_, rfl, no (eqn.trans (doneS_bad (by rw [ed, if_neg (fun h => k h.2)])))⟩
        · rw [decide_eq_false (fun h => z (V.str.inj h))]
          refine iteF ?_
          exact ⟨_, rfl, no (eqn.trans (doneS_bad (by rw [ed, if_neg (fun h => z h.1)])))⟩
      · have e : deedS wd = none := by
          cases hd : deedS wd with
          | none => rfl
          | some dd =>
            have h := (deedS_some hd).1
            exfalso
            cases dd with
            | none => exact ew h
            | some x => exact c (decide_eq_true (by rw [List.length_map, h]; rfl))
        exact ⟨_, rfl, no (eqn.trans (doneS_bad e))⟩
  · rintro σ H5 ⟨ot, st, st', gn', met, y5, y6, rfl, s5, hot, hst, hm, eqn, gst, lm, lsg⟩
    rw [lx, List.drop_of_length_le (Nat.le_refl _)] at eqn
    have eqn : doneS ps (ls.map (·.2)) (olds, []) olds 0 = .inr (st', gn') := eqn
    rw [lx] at lm lsg
    exact ⟨_, rfl, _, rfl, (by show 2 ≤ sizeLine; decide), fun T H6 s6 n6 e6 => qn st' gn' eqn T ot st H6 (s5.trans s6) e6 (hot.same s6) (hst.same s6) (by omega) (by omega)⟩
/-! ### _law_same -/
abbrev sSame : Stmt := topS 29
abbrev nSame : List Str := ["_law_found", "_law_due_here", "_law_piece", "_law_part"]
theorem scSame : FnScope nSame ["_law_found", "_law_due_here"] (defScope sSame) := ⟨rfl, rfl, rfl, by decide +kernel, rfl, by decide +kernel, by decide +kernel⟩
theorem ok_same5_step {f : Addr} {fd : FuncData} {n : Nat} (B : Blt mg) (CS : Cal P w K mg base n "_law_same" ["_law_found", "_law_due_here"] (spSame5 K n)) (F : Fun K "_law_same" "_law_same" sSame f fd) : FnOk P w K mg base CX0 (n + 1) f fd ["_law_found", "_law_due_here"] (spSame5 K (n + 1)) := by
  refine fok F scSame (fun vs H Q E h => ?_) (fun cdv A outer s H vs Q E hr h => ?_)
  · obtain ⟨x, y, rfl, _⟩ := h
    rfl
  obtain ⟨x, y, rfl, hA, q⟩ := h
  refine ⟨_, pss_cons (ps_if (pt_val (pe_callB call_isiT (by rfl) B.isinstance (by decide +kernel) (pa_cons (pv 1) (pa_cons (pe_tup (pa_cons (pe_bltn (v := .ty "list") (by rfl) B.list (by decide +kernel) rfl) (pa_cons (pe_bltn (v := .ty "tuple") (by rfl) B.tuple (by decide +kernel) rfl) pa_nil))) pa_nil))))
      (pss_cons (ps_if (PW.pt (pw_or (pt_cmpR op_ne (pe_callB call_isi (by rfl) B.isinstance (by decide +kernel) (pa_cons (pv 0) (pa_cons (pe_bltn (v := .ty "list") (by rfl) B.list (by decide +kernel) rfl) pa_nil))) (pe_callB call_isi (by rfl) B.isinstance (by decide +kernel) (pa_cons (pv 1) (pa_cons (pe_bltn (v := .ty "list") (by rfl) B.list (by decide +kernel) rfl) pa_nil))) (nomark _))
          (pw_or1 (pt_cmpR op_ne (pe_callB call_isi (by rfl) B.isinstance (by decide +kernel) (pa_cons (pv 0) (pa_cons (pe_bltn (v := .ty "tuple") (by rfl) B.tuple (by decide +kernel) rfl) pa_nil))) (pe_callB call_isi (by rfl) B.isinstance (by decide +kernel) (pa_cons (pv 1) (pa_cons (pe_bltn (v := .ty "tuple") (by rfl) B.tuple (by decide +kernel) rfl) pa_nil))) (nomark _)))))
        (pss_one (ps_ret pe_bl)) pss_nil)
      (pss_one (ps_ret (pe_and (pe_cmpR op_eq (pe_callB call_len_seq (by rfl) B.len PySem.boot_len (pa_cons (pv 0) pa_nil)) (pe_callB call_len_seq (by rfl) B.len PySem.boot_len (pa_cons (pv 1) pa_nil)) (nomark _))
        (pe_one (pe_callB (cr_all rfl) (by rfl) B.all (by decide +kernel) (pa_cons (pe_lc (own := [("_law_piece", 2), ("_law_part", 3)]) (g := gTup K 2 (gCons (gName 2) (gCons (gName 3) gNil))) (tt := tYes) rfl scSame.nd (RZ.pi_zipA (by rfl) B.zip (pa_cons (pv 0) (pa_cons (pv 1) pa_nil))) (blkOk_by (N := nSame) (sc := defScope sSame) (by decide +kernel))
          (fun _ _ _ _ _ => pg_tup rfl (pgs_cons (pg_name (i := 2) scSame.nd rfl (Or.inl rfl)) (pgs_cons (pg_name (i := 3) scSame.nd rfl (Or.inl rfl)) pgs_nil))) (fun _ _ _ _ _ => pts_nil) (fun _ _ _ _ _ => pe_cal CS hr (pa_cons (pv 2) (pa_cons (pv 3) pa_nil)))) pa_nil))))))) pss_nil)
    (pss_cons (ps_if (PW.pt (pw_or (pt_cmp (pc_isN (pv 1))) (pw_or1 (pt_val (pe_callB call_isi (by rfl) B.isinstance (by decide +kernel) (pa_cons (pv 1) (pa_cons (pe_bltn (v := .ty "str") (by rfl) B.str (by decide +kernel) rfl) pa_nil)))))))
      (pss_one (ps_ret (pe_and (pe_cmpR op_eq (pe_callB call_isi (by rfl) B.isinstance (by decide +kernel) (pa_cons (pv 0) (pa_cons (pe_bltn (v := .ty "str") (by rfl) B.str (by decide +kernel) rfl) pa_nil))) (pe_callB call_isi (by rfl) B.isinstance (by decide +kernel) (pa_cons (pv 1) (pa_cons (pe_bltn (v := .ty "str") (by rfl) B.str (by decide +kernel) rfl) pa_nil))) (nomark _)) (pe_one (pe_cmpR op_eq (pv 0) (pv 1) (nomark _)))))) pss_nil)
    (pss_one (ps_ret (pe_and (pe_callB call_isi (by rfl) B.isinstance (by decide +kernel) (pa_cons (pv 0) (pa_cons (pe_bltn (v := .ty "int") (by rfl) B.int (by decide +kernel) rfl) pa_nil)))
      (pe_and (pe_cmpR op_eq (pe_callB call_isi (by rfl) B.isinstance (by decide +kernel) (pa_cons (pv 0) (pa_cons (pe_bltn (v := .ty "bool") (by rfl) B.bool (by decide +kernel) rfl) pa_nil))) (pe_callB call_isi (by rfl) B.isinstance (by decide +kernel) (pa_cons (pv 1) (pa_cons (pe_bltn (v := .ty "bool") (by rfl) B.bool (by decide +kernel) rfl) pa_nil))) (nomark _)) (pe_one (pe_cmpR op_eq (pv 0) (pv 1) (nomark _)))))))), ?_⟩
  have l2 : (2 : Nat) ≤ sizeLine := by decide
  rcases hA with ⟨hx, rfl⟩ | ⟨a, b, xs, ys, rfl, rfl, h1, h2, hl, hz, h⟩ | ⟨a, b, xs, ys, rfl, rfl, h1, h2, hl, hz, h⟩
  · rcases hx with rfl | ⟨c, rfl⟩ | ⟨c, rfl⟩ | ⟨c, rfl⟩
    · refine ⟨_, rfl, l2, fun p hp => ⟨_, p, _, _, _, false, rfl, upd_same, .cons (.ty _) (.cons (.ty _) .nil), .base .non, kitAny_cons (b := false) (kit_ty (by decide +kernel)) (fun _ => kitAny_cons (b := false) (kit_ty (by decide +kernel)) (fun _ => kitAny_nil) (fun z => nomatch z)) (fun z => nomatch z), _, rfl, ?_⟩⟩
      refine ⟨_, rfl, _, rfl, ?_⟩
      refine ⟨_, rfl, _, _, _, _, false, rfl, .ty _, .base .non, kit_ty (by decide +kernel), _, rfl, _, _, _, _, false, rfl, .ty _, .base .non, kit_ty (by decide +kernel), rfl, _, rfl, ?_⟩
      exact ⟨_, rfl, _, rfl, rfl, q _ (same_upd hp)⟩
    · refine ⟨_, rfl, l2, fun p hp => ⟨_, p, _, _, _, false, rfl, upd_same, .cons (.ty _) (.cons (.ty _) .nil), .base (.bl c), kitAny_cons (b := false) (kit_ty (by decide +kernel)) (fun _ => kitAny_cons (b := false) (kit_ty (by decide +kernel)) (fun _ => kitAny_nil) (fun z => nomatch z)) (fun z => nomatch z), _, rfl, ?_⟩⟩
      refine ⟨_, rfl, _, rfl, _, rfl, _, _, _, _, false, rfl, .ty _, .base (.bl c), kit_ty (by decide +kernel), _, rfl, ?_⟩
      refine ⟨_, rfl, _, _, _, _, true, rfl, .ty _, .base (.bl c), kit_ty (by decide +kernel), _, rfl, ?_⟩
      refine ⟨_, rfl, _, _, _, _, true, rfl, .ty _, .base (.bl c), kit_ty (by decide +kernel), _, rfl, _, _, _, _, true, rfl, .ty _, .base (.bl c), kit_ty (by decide +kernel), rfl, _, rfl, ?_⟩
      refine ⟨_, rfl, _, rfl, rfl, ?_⟩
      rw [decide_eq_true rfl]
      exact q _ (same_upd hp)
    · refine ⟨_, rfl, l2, fun p hp => ⟨_, p, _, _, _, false, rfl, upd_same, .cons (.ty _) (.cons (.ty _) .nil), .base (.int c), kitAny_cons (b := false) (kit_ty (by decide +kernel)) (fun _ => kitAny_cons (b := false) (kit_ty (by decide +kernel)) (fun _ => kitAny_nil) (fun z => nomatch z)) (fun z => nomatch z), _, rfl, ?_⟩⟩
      refine ⟨_, rfl, _, rfl, _, rfl, _, _, _, _, false, rfl, .ty _, .base (.int c), kit_ty (by decide +kernel), _, rfl, ?_⟩
      refine ⟨_, rfl, _, _, _, _, true, rfl, .ty _, .base (.int c), kit_ty (by decide +kernel), _, rfl, ?_⟩
      refine ⟨_, rfl, _, _, _, _, false, rfl, .ty _, .base (.int c), kit_ty (by decide +kernel), _, rfl, _, _, _, _, false, rfl, .ty _, .base (.int c), kit_ty (by decide +kernel), rfl, _, rfl, ?_⟩
      refine ⟨_, rfl, _, rfl, rfl, ?_⟩
      rw [decide_eq_true rfl]
      exact q _ (same_upd hp)
    · refine ⟨_, rfl, l2, fun p hp => ⟨_, p, _, _, _, false, rfl, upd_same, .cons (.ty _) (.cons (.ty _) .nil), .base (.str c), kitAny_cons (b := false) (kit_ty (by decide +kernel)) (fun _ => kitAny_cons (b := false) (kit_ty (by decide +kernel)) (fun _ => kitAny_nil) (fun z => nomatch z)) (fun z => nomatch z), _, rfl, ?_⟩⟩
      refine ⟨_, rfl, _, rfl, _, rfl, _, _, _, _, true, rfl, .ty _, .base (.str c), kit_ty (by decide +kernel), _, rfl, ?_⟩
      refine ⟨_, rfl, _, _, _, _, true, rfl, .ty _, .base (.str c), kit_ty (by decide +kernel), _, rfl, _, _, _, _, true, rfl, .ty _, .base (.str c), kit_ty (by decide +kernel), rfl, _, rfl, ?_⟩
      refine ⟨_, rfl, _, rfl, rfl, ?_⟩
      rw [decide_eq_true rfl]
      exact q _ (same_upd hp)
  · refine ⟨_, rfl, l2, fun p hp => ⟨_, p, _, _, _, true, rfl, upd_same, .cons (.ty _) (.cons (.ty _) .nil), .base (.lst (same_upd hp _ _ h2)), kitAny_cons (b := true) (kit_ty (by decide +kernel)) (fun z => nomatch z) (fun _ => rfl), _, rfl, ?_⟩⟩
    have sp : Same H (upd H p (.tup [.ty "list", .ty "tuple"])) := same_upd hp
    have k1 := sp _ _ h1
    have k2 := sp _ _ h2
    refine ⟨_, rfl, _, _, _, _, true, rfl, .ty _, .base (.lst k1), kit_ty (by decide +kernel), _, rfl, _, _, _, _, true, rfl, .ty _, .base (.lst k2), kit_ty (by decide +kernel), rfl, _, rfl, ?_⟩
    refine ⟨_, rfl, _, _, _, _, false, rfl, .ty _, .base (.lst k1), kit_ty (by decide +kernel), _, rfl, _, _, _, _, false, rfl, .ty _, .base (.lst k2), kit_ty (by decide +kernel), rfl, _, rfl, ?_⟩
    refine ⟨_, rfl, a, _, rfl, .inl (.inl (.inl k1)), _, rfl, b, _, rfl, .inl (.inl (.inl k2)), rfl, _, rfl, ?_⟩
    rw [hl, decide_eq_true rfl]
    refine ⟨_, rfl, _, rfl, a, b, xs, ys, rfl, .inl ⟨.inl (.inl k1), .inl (.inl k2), fun D hD => ?_⟩⟩
    refine lc_it (walk_zip (xs := xs) (ys := ys) (n := xs.length) (by omega)) (fun i H' => Same (upd H p (.tup [.ty "list", .ty "tuple"])) H' ∧ H' D = some (.lst ((List.replicate i true).map V.bl))) ?_ ?_ ?_ ?_
    · exact ⟨same_upd hD, upd_same⟩
    · rintro i H' _ ⟨s2, _⟩
      exact ⟨.inl (.inl (s2 _ _ k1)), .inl (.inl (s2 _ _ k2))⟩
    · rintro i v H2 H3 hi ⟨s2, d2⟩ ⟨T, u1, u2, rfl, nT, rfl, e1, e2⟩
      have s3 := s2.trans (same_upd (o := .tup [u1, u2]) nT)
      refine ⟨T, _, rfl, .inl (.inl upd_same), rfl, _, _, rfl, _, _, rfl, rfl, rfl, ?_⟩
      refine ⟨_, rfl, _, rfl, u1, u2, rfl, (h i u1 u2 e1 e2).same (sp.trans s3), fun H4 s4 => ?_⟩
      have d4 := s4 _ _ (same_upd nT _ _ d2)
      refine ⟨_, d4, ?_, fun c o e => ?_, ?_⟩
      · rw [List.length_map, List.length_replicate]
        exact small1000 (by omega)
      · rw [upd_ne (ne_of_none e hD)]
        exact s4 _ _ (s3 _ _ e)
      · rw [upd_same, List.replicate_succ', List.map_append]
        rfl
    · rintro H2 ⟨s2, d2⟩
      refine ⟨D, _, rfl, .inl (.inl d2), ?_⟩
      rw [show (List.replicate xs.length true).all id = true by simp]
      exact q _ (sp.trans s2)
  · refine ⟨_, rfl, l2, fun p hp => ⟨_, p, _, _, _, true, rfl, upd_same, .cons (.ty _) (.cons (.ty _) .nil), (h2.same (same_upd hp)).ty, kitAny_cons (b := false) (kit_ty (by decide +kernel)) (fun _ => kitAny_cons (b := true) (kit_ty (by decide +kernel)) (fun z => nomatch z) (fun _ => rfl)) (fun z => nomatch z), _, rfl, ?_⟩⟩
    have sp : Same H (upd H p (.tup [.ty "list", .ty "tuple"])) := same_upd hp
    have k1 := h1.same sp
    have k2 := h2.same sp
    refine ⟨_, rfl, _, _, _, _, false, rfl, .ty _, k1.ty, kit_ty (by decide +kernel), _, rfl, _, _, _, _, false, rfl, .ty _, k2.ty, kit_ty (by decide +kernel), rfl, _, rfl, ?_⟩
    refine ⟨_, rfl, _, _, _, _, true, rfl, .ty _, k1.ty, kit_ty (by decide +kernel), _, rfl, _, _, _, _, true, rfl, .ty _, k2.ty, kit_ty (by decide +kernel), rfl, _, rfl, ?_⟩
    refine ⟨_, rfl, a, _, rfl, .inr k1.sq, _, rfl, b, _, rfl, .inr k2.sq, rfl, _, rfl, ?_⟩
    rw [hl, decide_eq_true rfl]
    refine ⟨_, rfl, _, rfl, a, b, xs, ys, rfl, .inr ⟨k1.sq, k2.sq, fun D hD => ?_⟩⟩
    refine lc_it (walk_zipT (xs := xs) (ys := ys) (n := xs.length) (by omega)) (fun i H' => Same (upd H p (.tup [.ty "list", .ty "tuple"])) H' ∧ H' D = some (.lst ((List.replicate i true).map V.bl))) ?_ ?_ ?_ ?_
    · exact ⟨same_upd hD, upd_same⟩
    · rintro i H' _ ⟨s2, _⟩
      exact ⟨(k1.same s2).sq, (k2.same s2).sq⟩
    · rintro i v H2 H3 hi ⟨s2, d2⟩ ⟨T, u1, u2, rfl, nT, rfl, e1, e2⟩
      have s3 := s2.trans (same_upd (o := .tup [u1, u2]) nT)
      refine ⟨T, _, rfl, .inl (.inl upd_same), rfl, _, _, rfl, _, _, rfl, rfl, rfl, ?_⟩
      refine ⟨_, rfl, _, rfl, u1, u2, rfl, (h i u1 u2 e1 e2).same (sp.trans s3), fun H4 s4 => ?_⟩
      have d4 := s4 _ _ (same_upd nT _ _ d2)
      refine ⟨_, d4, ?_, fun c o e => ?_, ?_⟩
      · rw [List.length_map, List.length_replicate]
        exact small1000 (by omega)
      · rw [upd_ne (ne_of_none e hD)]
        exact s4 _ _ (s3 _ _ e)
      · rw [upd_same, List.replicate_succ', List.map_append]
        rfl
    · rintro H2 ⟨s2, d2⟩
      refine ⟨D, _, rfl, .inl (.inl d2), ?_⟩
      rw [show (List.replicate xs.length true).all id = true by simp]
      exact q _ (sp.trans s2)
theorem ok_same5 {f : Addr} {fd : FuncData} (B : Blt mg) (F : Fun K "_law_same" "_law_same" sSame f fd) (hm : mg "_law_same" = some (.ref f)) (hb : L2.Binds K fd ["_law_found", "_law_due_here"] []) : ∀ n : Nat, FnOk P w K mg base CX0 n f fd ["_law_found", "_law_due_here"] (spSame5 K n)
  | 0 => by
    have no : ∀ vs H Q E, ¬ spSame5 K 0 vs H Q E := fun vs H Q E h => by
      obtain ⟨_, _, _, h, _⟩ := h
      exact h
    exact ⟨fun vs H Q E h => absurd h (no vs H Q E), fun A outer s H args us vs Q E _ _ _ _ h => absurd h (no vs H Q E)⟩
  | n + 1 => ok_same5_step B ⟨f, fd, ok_same5 B F hm hb n, hm, F.kp, hb⟩ F
/-! ### _law_right -/
abbrev sRight : Stmt := topS 35
abbrev nRight : List Str := ["_law_box_here", "_law_pool", "_law_pals_here", "_law_turn", "_law_some", "_law_left", "_law_stand", "_law_name", "_law_step", "_law_way", "_law_odd", "_law_due_here", "_law_kept", "_law_lists", "_law_deed", "_law_told"]
abbrev pRight : List Str := ["_law_box_here"]
theorem scRight : FnScope nRight pRight (defScope sRight) := ⟨rfl, rfl, rfl, by decide +kernel, rfl, by decide +kernel, by decide +kernel⟩
-- slots: 0:box_here 1:pool 2:pals_here* 3:turn 4:some* 5:left 6:stand* 7:name 8:step 9:way 10:odd 11:due_here 12:kept 13:lists* 14:deed 15:told
def qLam : Str := (envOfC "_law_right" (defScope sRight) 0 0 .none).qual ++ "<lambda>"
theorem ok_right {f g c PT CD CA CT fI : Addr} {fd fdg : FuncData} (B : Blt mg) (TD : OwnK K mg "BadDeed" "ValueError" "ValueError.__new__" "ValueError.__init__" "ValueError" CD fI) (TA : ClsK K mg "Astray" CA) (TB : ClsK K mg "BadText" CT)
    (noN : PySem.W.findIn K (.ref CD) "number" = some none) (nA : PySem.W.subIn K (.ref CD) (.ref CA) = some false) (nT : PySem.W.subIn K (.ref CD) (.ref CT) = some false)
    (FG : Fun K "_law_asked" "_law_asked" sAsk17 g fdg) (gG : mg "_law_asked" = some (.ref g)) (bG : L2.Binds K fdg ["_law_ask"] []) (TT : TabB base mg c PT) (hcd : fd.code = .ref c)
    (CDX : CalKX P w K mg base 6 "done" ["friends", "deeds", "row"] 2 "row" (spDone5 CD)) (CDN : CalNX P w K mg base 6 "done" ["friends", "deeds", "row"] ["row", "deeds", "friends"] [2, 1, 0] (spDone5 CD)) {E1 : Addr} (CDK : CalK P w K mg base 6 "done" ["friends", "deeds", "row"] 2 "row" (spDone0 K) E1)
    (CY : Cal P w K mg base 5 "_law_any_stand" ["_law_box_here", "_law_pals_here", "_law_pool"] spAny) (CDu : Cal P w K mg base 3 "_law_due" ["_law_pals_here", "_law_stand", "_law_some"] spDueD) (CN : Cal P w K mg base 2 "_law_names" ["_law_box_here", "_law_many"] spNames) (CP : Cal P w K mg base 2 "_law_pals" ["_law_box_here", "_law_pool"] spPals) (CSa : Cal P w K mg base 4 "_law_same" ["_law_found", "_law_due_here"] (spSame5 K 4)) (CW : Cal P w K mg base 2 "_law_strewn" ["_law_box_here", "_law_some"] spStrewn) (CT : Cal P w K mg base 1 "_law_take" ["_law_box_here", "_law_many"] spTake) (F : Fun K "_law_right" "_law_right" sRight f fd) : FnOkG P w K mg base 9 f fd pRight (spRightN [(PT, qLam)]) := by
  refine fokG F hcd scRight (fun vs H Q E h => ?_) (fun A outer s H vs Q E hg h => ?_)
  · obtain ⟨b, rfl, _⟩ := h
    rfl
  have hr := hg.r
  have hu := hu_of hr
  refine ⟨_, pss_cons (ps_set (i := 1) scRight.nd rfl (.inl rfl) (pe_cal CN hr (pa_cons (pv 0) (pa_cons (pe_op op_add pe_int (pe_cal CT hr (pa_cons (pv 0) (pa_cons pe_int pa_nil)))) pa_nil))))
    (pss_cons (ps_mid (ps_if (pt_mid (PW.pt (pw_and (pt_cmpR op_eq (pe_cal CT hr (pa_cons (pv 0) (pa_cons pe_int pa_nil))) pe_int (nomark _)) (pw_and (pt_cmpR op_notIn_seq pe_str (pv 1) (by rfl)) (pw_and1 (pt_cmpR op_notIn_seq pe_str (pv 1) (by rfl)))))))
      (pss_one (ps_asg (pe_ix ix_list (pe_lst (pa_cons pe_str (pa_cons pe_str pa_nil))) (pe_cal CT hr (pa_cons (pv 0) (pa_cons pe_int pa_nil))) (fun _ _ => rfl)) (pg_sub (pv 1) (pe_cal CT hr (pa_cons (pv 0) (pa_cons (pe_callB call_len_seq (by rfl) B.len PySem.boot_len (pa_cons (pv 1) pa_nil)) pa_nil))) set_list)))
      pss_nil))
    (pss_cons (ps_set (i := 2) scRight.nd rfl (.inr rfl) (pe_cal CP hr (pa_cons (pv 0) (pa_cons (pv 1) pa_nil))))
    (pss_cons (ps_for PassesOwn.never rfl (pi_range1 (by rfl) B.range (pa_cons pe_int pa_nil)) (pg_name (i := 3) scRight.nd rfl (.inl rfl))
      (pss_cons (ps_asg (pe_tup (pa_cons (pe_lst pa_nil) (pa_cons (pe_cal CW hr (pa_cons (pv 0) (pa_cons (pv 1) pa_nil))) pa_nil))) (pg_tup rfl (pgs_cons (pg_name (i := 4) scRight.nd rfl (.inr rfl)) (pgs_cons (pg_name (i := 5) scRight.nd rfl (.inl rfl)) pgs_nil))))
        (pss_cons (ps_set (i := 6) scRight.nd rfl (.inr rfl) (pe_cal CY hr (pa_cons (pv 0) (pa_cons (pv 2) (pa_cons (pe_slice sl_list (pv 5) po_none (po_some (pe_cal CT hr (pa_cons (pv 0) (pa_cons (pe_op op_add (pe_callB call_len_seq (by rfl) B.len PySem.boot_len (pa_cons (pv 5) pa_nil)) pe_int) pa_nil))))) pa_nil)))))
        (pss_cons (ps_setLc (i := 5) (own := [("_law_name", 7)]) (g := gName 7) (tt := tTest (tOp (rIn K true) (tVar 7) (tVar 6))) (te := tVar 7) rfl scRight.nd rfl rfl (sw_true rfl rfl rfl (by decide +kernel)) (pi_list (pv 5)) (blkOk_by (N := nRight) (sc := defScope sRight) (by decide +kernel)) (fun _ _ _ _ _ => pg_name (i := 7) scRight.nd rfl (Or.inl rfl)) (fun _ _ _ _ _ => pts_one (pt_cmpR op_notIn_seq (pv 7) (pv 6) (by rfl))) (fun _ _ _ _ _ => pv 7))
        (pss_cons (ps_for PassesOwn.never rfl (pi_range1 (by rfl) B.range (pa_cons (pe_cal CT hr (pa_cons (pv 0) (pa_cons pe_int pa_nil))) pa_nil)) (pg_name (i := 8) scRight.nd rfl (.inl rfl))
          (pss_cons (ps_set (i := 9) scRight.nd rfl (.inl rfl) (pe_cal CT hr (pa_cons (pv 0) (pa_cons pe_int pa_nil))))
            (pss_one (ps_if (pt_cmpR op_eq (pv 9) pe_int (nomark _))
              (pss_cons (ps_set (i := 10) scRight.nd rfl (.inl rfl) (pe_lst (pa_cons (pe_tupF (pa_cons pe_str (pa_cons (pe_ix ix_list (pv 1) pe_int (fun _ _ => rfl)) pa_nil))) (pa_cons (pe_tupF (pa_cons pe_str pa_nil)) (pa_cons (pe_tupF (pa_cons pe_str pa_nil)) (pa_cons (pe_tupF (pa_cons pe_str pa_nil)) (pa_cons (pe_tupF (pa_cons pe_str (pa_cons pe_str pa_nil))) (pa_cons (pe_tupF (pa_cons pe_str (pa_cons pe_str pa_nil))) (pa_cons (pe_tupF pa_nil) pa_nil)))))))))
                (pss_one (ps_expr (pe_bm PySem.F.plainAttrs_list PySem.F.slot_list_append PySem.F.type_list_append mt_append (pv 4) (pa_cons (pe_ix ix_list (pv 10) (pe_cal CT hr (pa_cons (pv 0) (pa_cons (pe_mid (pe_ifExp (pt_cmpR op_eq (pe_cal CT hr (pa_cons (pv 0) (pa_cons pe_int pa_nil))) pe_int (nomark _)) pe_int pe_int)) pa_nil))) (fun _ _ => rfl)) pa_nil)))))
              (pss_one (ps_if (pt_mid (PW.pt (pw_and (pt_cmpR op_lt (pv 9) pe_int (nomark _)) (pw_and1 (pt_cmpR (op_neNil hr.units) (pv 5) (pe_lst pa_nil) (nomark _))))))
                  (pss_one (ps_expr (pe_bm PySem.F.plainAttrs_list PySem.F.slot_list_append PySem.F.type_list_append mt_append (pv 4) (pa_cons (pe_tupF (pa_cons pe_str (pa_cons (pe_bm0 PySem.F.plainAttrs_list PySem.F.slot_list_pop PySem.F.type_list_pop mt_pop (pv 5)) pa_nil))) pa_nil))))
                  (pss_one (ps_expr (pe_bm PySem.F.plainAttrs_list PySem.F.slot_list_append PySem.F.type_list_append mt_append (pv 4) (pa_cons (pe_tupF (pa_cons pe_str pa_nil)) pa_nil))))))))))
        (pss_cons (ps_par (i := 11) (j := 12) (by rfl) scRight.nd rfl rfl (by decide) rfl rfl (pa_cons (pe_cal CDu hr (pa_cons (pv 2) (pa_cons (pv 6) (pa_cons (pv 4) pa_nil)))) (pa_cons (pe_callB (call_reprG hg) (by rfl) B.repr (by decide +kernel) (pa_cons (pv 4) pa_nil)) pa_nil)) (by rfl))
        (pss_cons (ps_set (i := 13) scRight.nd rfl (.inr rfl) (pe_lc (own := [("_law_deed", 14)]) (g := gName 14) (tt := tYes) (te := tCB (rLst5 K) (tCons (tVar 14) tNil)) rfl scRight.nd (pi_list (pv 4)) (blkOk_by (N := nRight) (sc := defScope sRight) (by decide +kernel)) (fun _ _ _ _ _ => pg_name (i := 14) scRight.nd rfl (Or.inl rfl)) (fun _ _ _ _ _ => pts_nil) (fun _ _ _ _ _ => pe_callTy (T := "list") (r := rLst5 K) call_lst5 (by rfl) B.list (by decide +kernel) (pa_cons (pv 14) pa_nil))))
        (pss_cons (ps_set (i := 15) scRight.nd rfl (.inl rfl) (pe_lst (pa_cons (asked_call (T := [(PT, qLam)]) (k := 6) B TD TA TB noN nA nT FG gG bG TT rfl (List.mem_singleton.mpr rfl) (fun p hp _ => by rw [List.mem_singleton.mp hp]; rfl) hr (lamS_by (by rfl)) rfl rfl (fun _ _ _ _ _ => rfl) (fun A outer s H E f c' z => pe_calkX CDX z (takes_of rfl rfl rfl rfl) (pa_cons (pv 2) (pa_cons (pv 4) pa_nil)) (pk_cons (pv 6) pk_nil))) pa_nil)))
        (pss_cons (ps_expr (pe_bm PySem.F.plainAttrs_list PySem.F.slot_list_append PySem.F.type_list_append mt_append (pv 15) (pa_cons (asked_call (T := [(PT, qLam)]) (k := 6) B TD TA TB noN nA nT FG gG bG TT rfl (List.mem_singleton.mpr rfl) (fun p hp _ => by rw [List.mem_singleton.mp hp]; rfl) hr (lamS_by (by rfl)) rfl rfl (fun _ _ _ _ _ => rfl) (fun A outer s H E f c' z => pe_calnX CDN z (takes_of rfl rfl rfl rfl) (pk_cons (pe_callTy (T := "list") (r := rLst5 K) call_lst5 (by rfl) B.list (by decide +kernel) (pa_cons (pv 6) pa_nil)) (pk_cons (pe_callTy (T := "tuple") (r := rTup5 K) call_tup5 (by rfl) B.tuple (by decide +kernel) (pa_cons (pv 13) pa_nil)) (pk_cons (pe_callTy (T := "list") (r := rLst5 K) call_lst5 (by rfl) B.list (by decide +kernel) (pa_cons (pv 2) pa_nil)) pk_nil))))) pa_nil)))
        (pss_one (ps_if (PW.pt (pw_or (pt_not (pt_val (pe_cal CSa hr (pa_cons (pv 15) (pa_cons (pe_lst (pa_cons (pv 11) (pa_cons (pv 11) pa_nil))) pa_nil))))) (pw_or1 (pt_cmpR op_ne (pe_callB (call_reprG hg) (by rfl) B.repr (by decide +kernel) (pa_cons (pv 4) pa_nil)) (pv 12) (nomark _)))))
          (pss_one (ps_ret pe_bl))
          pss_nil)))))))))))
    (pss_one (ps_ret (pe_cal CSa hr (pa_cons (pe_cald CDK hr (pa_cons (pv 2) (pa_cons (pe_lst pa_nil) pa_nil))) (pa_cons (pe_tupF (pa_cons (pe_tupF pa_nil) (pa_cons (pe_tupF pa_nil) pa_nil))) pa_nil)))))))), ?_⟩
  obtain ⟨b, rfl, hb, hT, q⟩ := h
  generalize hTT : [(PT, qLam)] = T at hT q ⊢
  refine ⟨_, rfl, _, rfl, b, _, rfl, hb, by decide, by decide, fun v H1 o1 b1 v0 v1 => ⟨_, _, rfl, rfl, ?_⟩⟩
  refine ⟨b, ((1 : Int) + v).toNat, ?_, b1, by omega, fun l pool0 H2 o2 b2 nl e2 n2 nd2 ok2 => ?_⟩
  · rw [Int.toNat_of_nonneg (by omega)]
    rfl
  have lp0 : pool0.length ≤ 12 := by omega
  have lp1 : 1 ≤ pool0.length := by omega
  have nlb : l ≠ b := b2.ne_strs e2
  have hT2 : Tabs T H2 := Tabs.oth b1 o2 (Tabs.oth hb o1 hT)
  have nl0 : H l = none := o1.free nlb nl
  refine ⟨fun σ H' => ∃ pool : List Str, σ = [some (.ref b), some (.ref l), none, none, none, none, none, none, none, none, none, none, none, none, none, none] ∧ ExtB b H H' ∧ IsBox H' b ∧ Tabs T H' ∧ H' l = some (.lst (pool.map V.str)) ∧ 1 ≤ pool.length ∧ pool.length ≤ 12 ∧ pool.Nodup ∧ ∀ x ∈ pool, NameOk x, ?_, ?_⟩
  · refine ⟨fun c H' => Oth b H2 H' ∧ IsBox H' b ∧ (c = true → ("serve" : Str) ∉ pool0 ∧ ("come" : Str) ∉ pool0), ?_, ?_⟩
    · refine ⟨_, rfl, b, _, rfl, b2, by decide, by decide, fun v3 H3 o3 b3 v30 v31 => ?_⟩
      have l3 := o3 _ _ nlb e2
      refine ⟨rfl, _, rfl, ite2 (fun _ => ?_) (fun _ => ⟨o3, b3, fun z => nomatch z⟩)⟩
      refine ⟨_, rfl, l, _, rfl, .inl (.inl (.inl l3)), rfl, flat_strs _, _, rfl, ?_⟩
      rw [inV_strs]
      refine ite2 (fun c1 => ?_) (fun _ => ⟨o3, b3, fun z => nomatch z⟩)
      refine ⟨_, rfl, l, _, rfl, .inl (.inl (.inl l3)), rfl, flat_strs _, _, rfl, ?_⟩
      rw [inV_strs]
      exact ⟨o3, b3, fun c2 => ⟨by simpa using c1, by simpa using c2⟩⟩
    rintro c H3 ⟨o3, b3, hc⟩
    have l3 := o3 _ _ nlb e2
    have hT3 : Tabs T H3 := Tabs.oth b2 o3 hT2
    have x3 : ExtB b H H3 := .of ((o1.trans o2).trans o3)
    refine ite2 (fun z => ?_) (fun _ => ⟨pool0, rfl, x3, b3, hT3, l3, lp1, lp0, nd2, ok2⟩)
    obtain ⟨ns, nc⟩ := hc z
    refine ⟨(by show 2 ≤ sizeLine; decide), fun q0 hq0 => ?_⟩
    have s4 := same_upd (o := .lst [.str "serve", .str "come"]) hq0
    have e4 : upd H3 q0 (.lst [.str "serve", .str "come"]) q0 = some (.lst [.str "serve", .str "come"]) := upd_same
    generalize upd H3 q0 (.lst [.str "serve", .str "come"]) = H4 at s4 e4 ⊢
    have b4 := b3.same s4
    have nq : q0 ≠ b := b3.ne_none hq0
    refine ⟨_, rfl, b, _, rfl, b4, by decide, by decide, fun v5 H5 o5 b5 v50 v51 => ?_⟩
    obtain ⟨n5, rfl⟩ : ∃ n : Nat, v5 = (n : Int) := ⟨v5.toNat, by omega⟩
    obtain ⟨y, hy, oky, ny⟩ : ∃ y : Str, ([.str "serve", .str "come"] : List V)[n5]? = some (.str y) ∧ NameOk y ∧ y ∉ pool0 := by
      have h2 : n5 = 0 ∨ n5 = 1 := by omega
      rcases h2 with h | h <;> subst h
      · exact ⟨"serve", rfl, nb_iff.mp (by decide +kernel), ns⟩
      · exact ⟨"come", rfl, nb_iff.mp (by decide +kernel), nc⟩
    refine ⟨_, _, _, _, rfl, rfl, .inl (.inl (o5 _ _ nq e4)), atI_nat hy, ?_⟩
    have l5 := o5 _ _ nlb (s4 _ _ l3)
    refine ⟨_, rfl, _, rfl, _, rfl, l, _, rfl, .inl (.inl (.inl l5)), b, _, rfl, b5, by rw [List.length_map]; omega, by rw [List.length_map]; omega, fun v6 H6 o6 b6 v60 v61 => ?_⟩
    rw [List.length_map] at v61
    obtain ⟨n6, rfl⟩ : ∃ n : Nat, v6 = (n : Int) := ⟨v6.toNat, by omega⟩
    have l6 := o6 _ _ nlb l5
    refine ⟨l, _, _, n6, rfl, rfl, l6, by rw [List.length_map]; exact ixN_nat (by omega), ?_⟩
    have em : (pool0.map V.str).set n6 (.str y) = (pool0.set n6 y).map V.str := by rw [List.map_set]
    rw [em]
    have x6 : ExtB b H H6 := ((x3.trans (.same s4)).trans (.of o5)).trans (.of o6)
    have t6 : Tabs T H6 := Tabs.oth b5 o6 (Tabs.oth b4 o5 (Tabs.same s4 hT3))
    refine ⟨pool0.set n6 y, rfl, fun a o na nt e => ?_, ?_, Tabs.lst l6 t6, upd_same, by rw [List.length_set]; exact lp1, by rw [List.length_set]; exact lp0, ?_, fun x hx => ?_⟩
    · rw [upd_ne (fun z => by rw [z, nl0] at e; cases e)]
      exact x6 a o na nt e
    · obtain ⟨i, j, k, e⟩ := b6
      exact ⟨i, j, k, (upd_ne (fun z => nlb z.symm)).trans e⟩
    · exact nodup_set nd2 ny
    · rcases List.mem_or_eq_of_mem_set hx with h | h
      · exact ok2 x h
      · rw [h]
        exact oky
  rintro σ H3 ⟨pool, rfl, x3, b3, hT3, l3, lp1, lp, nd, okp⟩
  clear o1 b1 o2 b2 nl e2 n2 nd2 ok2 lp0 hT2
  have gp : Goods pool := fun x hx => (okp x hx).good
  refine ⟨_, rfl, _, rfl, b, l, pool, rfl, b3, l3, nd, by omega, fun a bs H4 o4 b4 na e4 p4 g4 c4 _ => ?_⟩
  have hpa4 : PalsAt H4 a (bs.map (·.2)) := ⟨bs, e4, p4, rfl⟩
  have hpo : PalsOk (bs.map (·.2)) := g4.ok gp
  have hpl : (bs.map (·.2)).length ≤ 1000 := by rw [List.length_map]; exact c4
  generalize bs.map (·.2) = ps at hpa4 hpo hpl
  have l4 : H4 l = some (.lst (pool.map V.str)) := o4 _ _ nlb l3
  have hT4 : Tabs T H4 := Tabs.oth b3 o4 hT3
  have x4 := x3.trans (.of o4)
  refine ⟨3, rfl, by decide, by decide, ?_⟩
  refine for_it (walk_range (lo := 0) (n := (3 : Int).toNat)) (fun i σ H' => ∃ (y3 y4 y5 y6 y7 y8 y9 y10 y11 y12 y13 y14 y15 : Option V), σ = [some (.ref b), some (.ref l), some (.ref a), y3, y4, y5, y6, y7, y8, y9, y10, y11, y12, y13, y14, y15] ∧ ExtB b H4 H' ∧ IsBox H' b ∧ Tabs T H') ?_ (fun _ _ _ _ _ => trivial) ?_ ?_
  · exact ⟨_, _, _, _, _, _, _, _, _, _, _, _, _, rfl, ExtB.refl _ _, b4, hT4⟩
  rotate_left
  · rintro σ H5 ⟨y3, y4, y5, y6, y7, y8, y9, y10, y11, y12, y13, y14, y15, rfl, x5, b5, hT5⟩
    have a5 := x5.pals b4 hpa4
    have x05 := x4.trans x5
    clear hpa4
    have hbare : Bare5 K E1 := CDK.emp
    refine ⟨_, rfl, (by show 0 ≤ sizeLine; decide), fun p0 hp0 => ?_⟩
    have s6 := same_upd (o := .lst []) hp0
    refine ⟨a, p0, E1, rfl, upd_same, hbare, fun T0 g0 H7 s7 k7 g7 => ?_⟩
    refine ⟨(by show 0 ≤ sizeLine; decide), fun t1 H8 s8 n8 e8 => ?_⟩
    refine ⟨(by show 0 ≤ sizeLine; decide), fun t2 H9 s9 n9 e9 => ?_⟩
    refine ⟨(by show 2 ≤ sizeLine; decide), fun t3 H10 s10 n10 e10 => ?_⟩
    have s710 := (s8.trans s9).trans s10
    have nil5 : ∀ {u v : Addr}, TupY K H10 u [] → TupY K H10 v [] → Alk5 K H10 3 (.ref u) (.ref v) := fun {u v} h1 h2 => alk5_strsT (xs := []) h1 h2 (by decide)
    refine ⟨_, _, rfl, alk5_tup2 (.inr (k7.same s710)) (.inr e10) (nil5 (.of (.inr (g7.same s710))) (.of (.inr (e8.same (s9.trans s10))))) (nil5 (.bare hbare) (.of (.inr (e9.same s10)))), fun H11 s11 => ?_⟩
    have s511 := ((s6.trans s7).trans s710).trans s11
    exact q _ (x05.trans (.same s511)) (Tabs.same s511 hT5)
  rintro i x σ H5' H5 hi ⟨y3, y4, y5, y6, y7, y8, y9, y10, y11, y12, y13, y14, y15, rfl, x5, b5, hT5⟩ ⟨rfl, rfl⟩
  have l5 := x5.lst nlb l4
  refine ⟨(by show 0 ≤ sizeLine; decide), fun S hS => ?_⟩
  have sS := same_upd (o := .lst []) hS
  have eS : upd H5 S (.lst []) S = some (.lst (refsR5 [])) := upd_same
  generalize upd H5 S (.lst []) = H6 at sS eS ⊢
  have b6 := b5.same sS
  have l6 := sS _ _ l5
  have nSb : S ≠ b := b5.ne_none hS
  refine ⟨_, rfl, _, rfl, b, l, pool, rfl, b6, .inr l6, by omega, fun p order H7 o7 b7 np e7 pm => ?_⟩
  have npb : p ≠ b := b6.ne_none np
  have lo := pm.length_eq
  have S7 := o7 _ _ nSb eS
  refine ⟨(by show 2 ≤ sizeLine; decide), fun tq htq => ?_⟩
  have s8 := same_upd (o := .tup [.ref S, .ref p]) htq
  have eq8 : upd H7 tq (.tup [.ref S, .ref p]) tq = some (.tup [.ref S, .ref p]) := upd_same
  generalize upd H7 tq (.tup [.ref S, .ref p]) = H8 at s8 eq8 ⊢
  refine ⟨tq, _, rfl, .inl (.inl eq8), rfl, _, _, rfl, _, _, rfl, rfl, ?_⟩
  have S8 := s8 _ _ S7
  have e8 := s8 _ _ e7
  have b8 := b7.same s8
  have x58 : ExtB b H5 H8 := .of (((Oth.of sS).trans o7).trans (.of s8))
  have hT8 : Tabs T H8 := Tabs.same s8 (Tabs.oth b6 o7 (Tabs.same sS hT5))
  clear eq8 htq
  -- the row
  refine ⟨_, rfl, _, rfl, _, rfl, _, rfl, _, rfl, p, _, rfl, .inl (.inl (.inl e8)), _, _, rfl, rfl, ?_⟩
  rw [List.length_map]
  refine ⟨b, _, rfl, b8, by omega, by omega, fun v9 H9 o9 b9 v90 v91 => ?_⟩
  obtain ⟨n9, rfl⟩ : ∃ n : Nat, v9 = (n : Int) := ⟨v9.toNat, by omega⟩
  have e9 := o9 _ _ npb e8
  have S9 := o9 _ _ nSb S8
  refine ⟨_, rfl, p, _, rfl, .inl (.inl e9), fun p10 hp10 => ?_⟩
  rw [cutV_map, cutL_to]
  have s10 := same_upd (o := .lst ((order.take n9).map V.str)) hp10
  have e10 : upd H9 p10 (.lst ((order.take n9).map V.str)) p10 = some (.lst ((order.take n9).map V.str)) := upd_same
  have ms : ∀ y ∈ order.take n9, y ∈ pool := fun y hy => pm.subset (List.mem_of_mem_take hy)
  have nds0 : (order.take n9).Nodup := (pm.nodup_iff.mpr nd).sublist (List.take_sublist _ _)
  have ls0 : (order.take n9).length ≤ 12 := by rw [List.length_take]; omega
  generalize order.take n9 = some0 at e10 ms nds0 ls0 s10 ⊢
  have b10 := b9.same s10
  generalize upd H9 p10 (.lst (some0.map V.str)) = H10 at s10 e10 b10 ⊢
  have x410 := x5.trans (x58.trans ((ExtB.of o9).trans (.same s10)))
  refine ⟨b, a, p10, ps, some0, rfl, b10, x410.pals b4 hpa4, hpo, e10, (fun y hy => gp y (ms y hy)), nds0, by omega, fun t stand H11 o11 b11 t11 pms => ?_⟩
  have o811 := (o9.trans (.of s10)).trans o11
  have hT11 : Tabs T H11 := Tabs.oth b8 o811 hT8
  have e11 := o811 _ _ npb e8
  have S11 := o811 _ _ nSb S8
  have x511 : ExtB b H5 H11 := x58.trans (.of o811)
  have ntb : t ≠ b := t11.ne b11
  have lst := pms.length_eq
  have mst : ∀ y ∈ stand, y ∈ pool := fun y hy => ms y (pms.subset hy)
  have gst : Goods stand := fun y hy => gp y (mst y hy)
  have lst12 : stand.length ≤ 12 := by omega
  have mo : ∀ y ∈ order, NameOk y := fun y hy => okp y (pm.subset hy)
  clear e8 S8 hT8 x58 e9 S9 o9 v90 v91 s10 e10 b10 x410 b9 hp10 o811 o11 b8
  -- who is left
  refine ⟨_, rfl, p, rfl, ⟨_, .inl (.inl e11)⟩, fun Lf hL => ?_⟩
  have nLb : Lf ≠ b := b11.ne_none hL
  refine lc_filt (walk_list (K := K) (xs := order.map V.str)) (fun y => !decide (y ∈ stand)) hL (fun H' s => .inl (.inl (s _ _ e11))) ?_ ?_ (by omega) (fun v H A B h z => h _ _ z) ?_ (fun σ2 H A B h ⟨v, e, z⟩ => ⟨v, e, h _ _ z⟩)
  · rintro k y v H12 H12' hy s12 ⟨rfl, ex⟩
    rw [ix_map hy] at ex
    cases ex
    refine ⟨Same.refl _, rfl, .str y, rfl, .ref t, rfl, t, _, rfl, .inr (t11.same s12).sq, rfl, flat_strs _, _, rfl, ?_, Same.refl _, fun _ => ⟨_, rfl, rfl, Same.refl _⟩⟩
    rw [inV_strs]
    rfl
  rotate_left
  · rintro σ2 H A B h ⟨v1, e1, v2, e2, w1, w2, w3, w4, w5, w6, bb, eb, zz⟩
    exact ⟨v1, e1, v2, e2, w1, w2, w3, w4, w5, w6, bb, eb, h _ _ zz⟩
  intro H12 s12 e12
  have ml : ∀ y ∈ order.filter (fun y => !decide (y ∈ stand)), NameOk y := fun y hy => mo y (List.mem_filter.mp hy).1
  have ll : (order.filter (fun y => !decide (y ∈ stand))).length ≤ 12 := Nat.le_trans (List.length_filter_le _ _) (by omega)
  generalize order.filter (fun y => !decide (y ∈ stand)) = left at e12 ml ll
  have b12 := b11.same s12
  have x512 := x511.trans (.same s12)
  have hT12 := Tabs.same s12 hT11
  have t12 := t11.same s12
  have S12 := s12 _ _ S11
  have nSL : S ≠ Lf := ne_of_none S11 hL
  have l12 := x512.lst nlb l5
  clear hT11 S11 e11
  -- deeds
  have fS : ∀ a o, a ≠ b → (∀ ps, o ≠ .tbl ps) → H5 a = some o → a ≠ S := fun a o _ _ e z => by
    rw [z, hS] at e
    cases e
  have fL : ∀ a o, a ≠ b → (∀ ps, o ≠ .tbl ps) → H5 a = some o → a ≠ Lf := fun a o na nt e z => by
    have := x511 a o na nt e
    rw [z, hL] at this
    cases this
  have d12 : DI b S Lf T H5 H12 [] left H12 := ⟨nSb, nLb, nSL, fS, fL, x512, fun _ _ h => h, b12, hT12, S12, (fun _ h => nomatch h), (fun _ h => nomatch h), e12, ml, ll⟩
  clear x511 e12 ml ll S12 hT12 l12
  refine ⟨_, rfl, b, _, rfl, b12, by decide, by decide, fun v13 H13 o13 b13 v130 v131 => ?_⟩
  have d13 := d12.oth o13 b13
  refine ⟨v13, rfl, by omega, by omega, ?_⟩
  refine for_it (walk_range (lo := 0) (n := v13.toNat)) (fun j σ H' => ∃ (ls : LR5) (left : List Str) (y7 y8 y9 y10 y11 y12 y13 y14 y15 : Option V), σ = [some (.ref b), some (.ref l), some (.ref a), some (.int (0 + (i : Int))), some (.ref S), some (.ref Lf), some (.ref t), y7, y8, y9, y10, y11, y12, y13, y14, y15] ∧ DI b S Lf T H5 H12 ls left H' ∧ ls.length ≤ j) ?_ (fun _ _ _ _ _ => trivial) ?_ ?_
  · exact ⟨[], left, _, _, _, _, _, _, _, _, _, rfl, d13, Nat.le_refl _⟩
  rotate_left
  · rintro σ H14 ⟨ls, left', y7, y8, y9, y10, y11, y12, y13, y14, y15, rfl, d14, lls⟩
    clear d12 d13 o13 b13
    have lls : ls.length ≤ 20 := by omega
    have t14 : TupAt H14 t (stand.map V.str) := d14.k _ _ t12
    have x414 := x5.trans d14.x
    have a14 := x414.pals b4 hpa4
    have ft := fit_datR d14.tx (by omega)
    obtain ⟨R, eR⟩ : ∃ R, R = doneS ps (ls.map (·.2)) (stand, []) stand 0 := ⟨_, rfl⟩
    have lR : ∀ st gn, R = .inr (st, gn) → st.length ≤ 1000 ∧ gn.length ≤ 1000 := fun st gn e => by
      rw [eR] at e
      have h := doneS_len e
      simp only [List.length_map, List.length_nil] at h
      exact ⟨by omega, by omega⟩
    refine ⟨_, rfl, _, rfl, _, rfl, a, t, S, ps, stand, ls, rfl, a14, hpo, t14, gst, d14.s, d14.ts, d14.tx, by omega, fun dv H15 s15 dd15 => ?_⟩
    rw [← eR] at dd15
    have d15 := d14.same s15
    refine ⟨_, rfl, S, datR ls, rfl, dp_datR d15.s d15.ts, ft.sh, ft.nd, Nat.le_trans ft.dp (by decide), ft.fits (by decide), ?_⟩
    refine ⟨_, _, rfl, ?_⟩
    refine ⟨_, rfl, S, rfl, ⟨_, .inl (.inl d15.s)⟩, fun D hD => ?_⟩
    refine lc_it (walk_list (xs := refsR5 ls)) (fun k H' => ∃ ls2 : LR5, Same H15 H' ∧ H' D = some (.lst (refsR5 ls2)) ∧ ls2.map (·.2) = (ls.take k).map (·.2) ∧ ∀ q ∈ ls2, q.1 ≠ D ∧ H' q.1 = some (.lst (q.2.map V.str))) ?_ ?_ ?_ ?_
    · exact ⟨[], same_upd hD, upd_same, rfl, fun _ h => nomatch h⟩
    · rintro k H' _ ⟨_, s, _⟩
      exact .inl (.inl (s _ _ d15.s))
    · rintro k v H16' H16 hk ⟨ls2, s16, e16, m16, q16⟩ ⟨rfl, ex⟩
      rw [refs5_len] at hk
      have hdi := List.getElem?_eq_getElem hk
      obtain rfl : V.ref (ls[k]).1 = v := Option.some.inj ((refs5_at hdi).symm.trans ex)
      have md := List.mem_of_getElem? hdi
      refine ⟨rfl, _, rfl, (ls[k]).1, _, rfl, .inr ((d15.ts _ md).same s16).sq, fun lw hlw => ?_⟩
      have nDw : D ≠ lw := ne_of_none e16 hlw
      have D17 : upd H16 lw (.lst ((ls[k]).2.map V.str)) D = some (.lst (refsR5 ls2)) := (upd_ne nDw).trans e16
      have l2 : ls2.length ≤ 20 := by
        have := congrArg List.length m16
        simp only [List.length_map, List.length_take] at this
        omega
      refine ⟨_, D17, (by rw [refs5_len]; exact small1000 (by omega)), ls2 ++ [(lw, (ls[k]).2)], fun b' o' z => ?_, ?_, ?_, fun q hq => ?_⟩
      · rw [upd_ne (ne_of_none z hD), upd_ne (ne_of_none (s16 _ _ z) hlw)]
        exact s16 _ _ z
      · rw [upd_same]
        unfold refsR5
        rw [List.map_append]
        rfl
      · rw [List.map_append, m16, List.take_add_one, hdi, List.map_append]
        rfl
      · rcases List.mem_append.mp hq with h | h
        · refine ⟨(q16 q h).1, ?_⟩
          rw [upd_ne (q16 q h).1, upd_ne (ne_of_none (q16 q h).2 hlw)]
          exact (q16 q h).2
        · rw [List.mem_singleton.mp h]
          exact ⟨fun z => nDw z.symm, (upd_ne (fun z => nDw z.symm)).trans upd_same⟩
    rintro H16 ⟨ls2, s16, e16, m16, q16⟩
    rw [refs5_len, List.take_of_length_le (Nat.le_refl _)] at m16
    have d16 := d15.same s16
    have dd16 := dd15.kt (.same s16)
    have a16 : PalsAt H16 a ps := (a14.same s15).same s16
    have t16 := (t14.same s15).same s16
    have hl2 : ls2.length = ls.length := by
      have := congrArg List.length m16
      simpa only [List.length_map] using this
    have lw1 : ∀ q ∈ ls, ∀ x ∈ q.2, x.length ≤ 1000 := fun q hq x hx => by
      rcases (d14.tx q hq).2 x hx with h | h
      · have := h.len
        omega
      · rw [h]
        decide +kernel
    have lw2 : ∀ q ∈ ls2, ∀ x ∈ q.2, x.length ≤ 1000 := fun q hq x hx => by
      obtain ⟨q', hq', e⟩ := List.mem_map.mp (show q.2 ∈ ls.map (·.2) by rw [← m16]; exact List.mem_map.mpr ⟨q, hq, rfl⟩)
      exact lw1 q' hq' x (by rw [e]; exact hx)
    -- the first lambda
    refine ⟨d16.tb, fun H17 x17 hT17 => ?_⟩
    have a17 : PalsAt H17 a ps := a16.extN x17
    have t17 : TupAt H17 t (stand.map V.str) := KT.ext x17 _ _ t16
    have S17 := x17 _ _ d16.s lst_tbl
    have D17 := x17 _ _ e16 lst_tbl
    have q17 : ∀ q ∈ ls2, H17 q.1 = some (.lst (q.2.map V.str)) := fun q hq => x17 _ _ (q16 q hq).2 lst_tbl
    have k17 : KT H16 H17 := .ext x17
    have dd17 := dd16.kt k17
    have ts17 : ∀ q ∈ ls, TupAt H17 q.1 (q.2.map V.str) := fun q hq => k17 _ _ (d16.ts q hq)
    have b17 := d16.bx.extN x17
    have x517 : ExtB b H5 H17 := d16.x.trans (.ext x17)
    clear d14 d15 d16 dd15 dd16 t14 t16 a14 a16
    refine task_due (R := R) (fun v1 H18 s18 dv1 => ?_) (fun H18 N E18 s18 qn qe => ?_)
    rotate_left
    · refine ⟨_, rfl, _, rfl, _, rfl, rfl, rfl, a, S, t, ps, stand, ls, rfl, (a17.same s18).fr, hpl, .inr (s18 _ _ S17), (fun q hq => .inl ((ts17 q hq).same s18)), lw1, .inl (t17.same s18), by omega, ?_, ?_⟩
      · rw [← eR]
        exact qn
      · rw [← eR]
        exact qe
    refine ⟨(by show 1 ≤ sizeLine; decide), fun TL hTL => ?_⟩
    have s19 := same_upd (o := .lst [v1]) hTL
    have e19 : upd H18 TL (.lst [v1]) TL = some (.lst [v1]) := upd_same
    generalize upd H18 TL (.lst [v1]) = H19 at s19 e19 ⊢
    have s1719 := s18.trans s19
    have nTS : S ≠ TL := ne_of_none (s18 _ _ S17) hTL
    have nTb : TL ≠ b := (b17.same s18).ne_none hTL
    have nT5 : ∀ a o, a ≠ b → (∀ ps, o ≠ .tbl ps) → H5 a = some o → a ≠ TL := fun a o na nt e => ne_of_none (s18 _ _ (x517 a o na nt e)) hTL
    refine ⟨.ref TL, rfl, .inl ⟨rfl, _, .inl (.inl e19)⟩, ?_⟩
    -- the second
    refine ⟨Tabs.same s1719 hT17, fun H20 x20 hT20 => ?_⟩
    have k1720 : KT H17 H20 := (KT.same s1719).trans (.ext x20)
    have a20 : PalsAt H20 a ps := (a17.same s1719).extN x20
    have t20 := k1720 _ _ t17
    have S20 := x20 _ _ (s1719 _ _ S17) lst_tbl
    have D20 := x20 _ _ (s1719 _ _ D17) lst_tbl
    have q20 : ∀ q ∈ ls2, H20 q.1 = some (.lst (q.2.map V.str)) := fun q hq => x20 _ _ (s1719 _ _ (q17 q hq)) lst_tbl
    have dd20 := dd17.kt k1720
    have dv20 : DueIs H20 R v1 := dv1.kt ((KT.same s19).trans (.ext x20))
    have ts20 : ∀ q ∈ ls, TupAt H20 q.1 (q.2.map V.str) := fun q hq => k1720 _ _ (ts17 q hq)
    have b20 := (b17.same s1719).extN x20
    have x520 : ExtB b H5 H20 := (x517.trans (.same s1719)).trans (.ext x20)
    have e20 := x20 _ _ e19 lst_tbl
    clear dd17 dv1 a17 t17 S17 D17 q17 ts17 b17 x517 hT17
    refine task_due (R := R) (fun v2 H21 s21 dv2 => ?_) (fun H21 N E21 s21 qn qe => ?_)
    rotate_left
    · have t21 := t20.same s21
      obtain ⟨bs', hb1, hb2, hb3⟩ := a20.same s21
      refine ⟨_, rfl, t, _, rfl, .inr t21.sq, fun q1 hq1 => ?_⟩
      have s22 := same_upd (o := .lst (stand.map V.str)) hq1
      have e22 : upd H21 q1 (.lst (stand.map V.str)) q1 = some (.lst (stand.map V.str)) := upd_same
      generalize upd H21 q1 (.lst (stand.map V.str)) = H22 at s22 e22 ⊢
      refine ⟨_, rfl, D, _, rfl, .inl ⟨.inl (.inl (s22 _ _ (s21 _ _ D20))), fun q2 H23 s23 n23 e23 => ?_⟩⟩
      have s2123 := s22.trans s23
      refine ⟨_, rfl, a, _, rfl, .inr (.inl (.inl (s2123 _ _ hb1))), fun q3 hq3 => ?_⟩
      have s24 := same_upd (o := .lst (refs bs')) hq3
      have e24 : upd H23 q3 (.lst (refs bs')) q3 = some (.lst (refs bs')) := upd_same
      generalize upd H23 q3 (.lst (refs bs')) = H24 at s24 e24 ⊢
      have s2124 := s2123.trans s24
      refine ⟨rfl, rfl, q3, q2, q1, ps, stand, ls2, rfl, ⟨bs', .inr e24, (hb2.same s2124).b, hb3⟩, hpl, .inl (e23.same s24), (fun q hq => .inr (s2124 _ _ (s21 _ _ (q20 q hq)))), lw2, .inr ((s23.trans s24) _ _ e22), by omega, ?_, ?_⟩
      · rw [m16, ← eR]
        exact fun st gn r T g' t' H' s => qn st gn r T g' t' H' (s2124.trans s)
      · rw [m16, ← eR]
        exact fun i r d H' s n => qe i r d H' (s2124.trans s) (s2124.free n)
    have e21 := s21 _ _ e20
    refine ⟨TL, _, _, rfl, rfl, e21, (by show 1 < sizeLine; decide), ?_⟩
    have k22 : KT H21 (upd H21 TL (.lst ([v1] ++ [v2]))) := .lst e21
    have dv1' : DueIs (upd H21 TL (.lst ([v1] ++ [v2]))) R v1 := (dv20.kt (.same s21)).kt k22
    have dv2' : DueIs (upd H21 TL (.lst ([v1] ++ [v2]))) R v2 := dv2.kt k22
    have dd' : DueIs (upd H21 TL (.lst ([v1] ++ [v2]))) R dv := (dd20.kt (.same s21)).kt k22
    have S22 : upd H21 TL (.lst ([v1] ++ [v2])) S = some (.lst (refsR5 ls)) := (upd_ne nTS).trans (s21 _ _ S20)
    have ts22 : ∀ q ∈ ls, TupAt (upd H21 TL (.lst ([v1] ++ [v2]))) q.1 (q.2.map V.str) := fun q hq => k22 _ _ ((ts20 q hq).same s21)
    have x522 : ExtB b H5 (upd H21 TL (.lst ([v1] ++ [v2]))) := fun a o na nt e => by
      rw [upd_ne (nT5 a o na nt e)]
      exact s21 _ _ (x520 a o na nt e)
    have b22 : IsBox (upd H21 TL (.lst ([v1] ++ [v2]))) b := box_upd (b20.same s21) nTb
    have hT22 : Tabs T (upd H21 TL (.lst ([v1] ++ [v2]))) := Tabs.lst e21 (Tabs.same s21 hT20)
    have e22 : upd H21 TL (.lst ([v1] ++ [v2])) TL = some (.lst [v1, v2]) := upd_same
    generalize upd H21 TL (.lst ([v1] ++ [v2])) = H22 at dv1' dv2' dd' S22 ts22 x522 b22 hT22 e22 ⊢
    refine ⟨_, rfl, _, rfl, _, rfl, (by show 2 ≤ sizeLine; decide), fun DL hDL => ?_⟩
    have s23 := same_upd (o := .lst [dv, dv]) hDL
    refine ⟨_, _, rfl, alk5_list2 (s23 _ _ e22) upd_same (due_alk lR (dv1'.kt (.same s23)) (dd'.kt (.same s23))) (due_alk lR (dv2'.kt (.same s23)) (dd'.kt (.same s23))), fun H24 s24 => ⟨_, rfl, ?_⟩⟩
    generalize upd H22 DL (.lst [dv, dv]) = H23 at s23 s24
    have s2224 := s23.trans s24
    refine iteF ?_
    refine ⟨_, rfl, S, datR ls, rfl, dp_datR (s2224 _ _ S22) (fun q hq => (ts22 q hq).same s2224), ft.sh, ft.nd, Nat.le_trans ft.dp (by decide), ft.fits (by decide), _, rfl, rfl, _, rfl, ?_⟩
    rw [decide_eq_true rfl]
    refine iteF ?_
    exact ⟨_, _, _, _, _, _, _, _, _, _, _, _, _, rfl, (x5.trans x522).trans (.same s2224), b22.same s2224, Tabs.same s2224 hT22⟩
  rintro j x σ H14' H14 hj ⟨ls, left', y7, y8, y9, y10, y11, y12, y13, y14, y15, rfl, d14, lls⟩ ⟨rfl, rfl⟩
  have lls : ls.length ≤ 20 := by omega
  refine ⟨_, rfl, b, _, rfl, d14.bx, by decide, by decide, fun v15 H15 o15 b15 v150 v151 => ?_⟩
  have d15 := d14.oth o15 b15
  refine ⟨_, rfl, rfl, _, rfl, ite2 (fun _ => ?_) (fun _ => ?_)⟩
  · have l15 := d15.x.lst nlb l5
    obtain ⟨p0, hp0⟩ : ∃ p0, pool[0]? = some p0 := ⟨pool[0], List.getElem?_eq_getElem (by omega)⟩
    have okp0 := okp p0 (List.mem_of_getElem? hp0)
    refine ⟨_, rfl, l, _, 0, _, rfl, rfl, .inl (.inl l15), atI_nat (ix_map hp0), (by show 2 ≤ sizeLine; decide), fun u1 H16 s16 n16 e16 => ?_⟩
    refine ⟨(by show 1 ≤ sizeLine; decide), fun u2 H17 s17 n17 e17 => ?_⟩
    refine ⟨(by show 1 ≤ sizeLine; decide), fun u3 H18 s18 n18 e18 => ?_⟩
    refine ⟨(by show 1 ≤ sizeLine; decide), fun u4 H19 s19 n19 e19 => ?_⟩
    refine ⟨(by show 2 ≤ sizeLine; decide), fun u5 H20 s20 n20 e20 => ?_⟩
    refine ⟨(by show 2 ≤ sizeLine; decide), fun u6 H21 s21 n21 e21 => ?_⟩
    refine ⟨(by show 0 ≤ sizeLine; decide), fun u7 H22 s22 n22 e22 => ?_⟩
    refine ⟨(by show 7 ≤ sizeLine; decide), fun od hod => ?_⟩
    have s23 := same_upd (o := .lst [.ref u1, .ref u2, .ref u3, .ref u4, .ref u5, .ref u6, .ref u7]) hod
    have e23 : upd H22 od (.lst [.ref u1, .ref u2, .ref u3, .ref u4, .ref u5, .ref u6, .ref u7]) od = some (.lst [.ref u1, .ref u2, .ref u3, .ref u4, .ref u5, .ref u6, .ref u7]) := upd_same
    generalize upd H22 od (.lst [.ref u1, .ref u2, .ref u3, .ref u4, .ref u5, .ref u6, .ref u7]) = H23 at s23 e23 ⊢
    have k22 := s22.trans s23
    have k21 := s21.trans k22
    have k20 := s20.trans k21
    have k19 := s19.trans k20
    have k18 := s18.trans k19
    have k17 := s17.trans k18
    have d23 := d15.same (s16.trans k17)
    have w1 : NameOk "come" := nb_iff.mp (by decide +kernel)
    have w2 : NameOk "serve" := nb_iff.mp (by decide +kernel)
    have w3 : NameOk "wait" := nb_iff.mp (by decide +kernel)
    have w4 : NameOk "a" := nb_iff.mp (by decide +kernel)
    have odds : ∀ n : Nat, n < 7 → ∃ q : Addr × List Str, ([.ref u1, .ref u2, .ref u3, .ref u4, .ref u5, .ref u6, .ref u7] : List V)[n]? = some (.ref q.1) ∧ TupAt H23 q.1 (q.2.map V.str) ∧ q.2.length ≤ 2 ∧ ∀ x ∈ q.2, NameOk x ∨ x = "A" := fun n hn => by
      have one : ∀ {x z : Str}, NameOk x → z ∈ ([x] : List Str) → NameOk z ∨ z = "A" := fun {x z} h hz => by
        rw [List.mem_singleton.mp hz]
        exact .inl h
      match n, hn with
      | 0, _ => exact ⟨(u1, ["come", p0]), rfl, e16.same k17, Nat.le_refl _, fun x hx => (List.mem_cons.mp hx).elim (fun h => by rw [h]; exact .inl w1) fun h => one okp0 h⟩
      | 1, _ => exact ⟨(u2, ["serve"]), rfl, e17.same k18, (by show 1 ≤ 2; decide), fun x hx => one w2 hx⟩
      | 2, _ => exact ⟨(u3, ["come"]), rfl, e18.same k19, (by show 1 ≤ 2; decide), fun x hx => one w1 hx⟩
      | 3, _ => exact ⟨(u4, ["wait"]), rfl, e19.same k20, (by show 1 ≤ 2; decide), fun x hx => one w3 hx⟩
      | 4, _ => exact ⟨(u5, ["serve", "a"]), rfl, e20.same k21, Nat.le_refl _, fun x hx => (List.mem_cons.mp hx).elim (fun h => by rw [h]; exact .inl w2) fun h => one w4 h⟩
      | 5, _ => exact ⟨(u6, ["come", "A"]), rfl, e21.same k22, Nat.le_refl _, fun x hx => (List.mem_cons.mp hx).elim (fun h => by rw [h]; exact .inl w1) fun h => .inr (List.mem_singleton.mp h)⟩
      | 6, _ => exact ⟨(u7, []), rfl, e22.same s23, Nat.zero_le _, fun x hx => nomatch hx⟩
    have odb : od ≠ b := (((((((d15.bx.same s16).same s17).same s18).same s19).same s20).same s21).same s22).ne_none hod
    refine ⟨.ref S, rfl, .inl ⟨rfl, _, .inl (.inl d23.s)⟩, ?_⟩
    refine ⟨.ref od, rfl, _, rfl, fun v H' => ∃ m : Int, v = .int m ∧ 2 ≤ m ∧ m ≤ 7 ∧ Oth b H23 H' ∧ IsBox H' b, ?_, ?_⟩
    · refine ⟨_, rfl, b, _, rfl, d23.bx, by decide, by decide, fun v24 H24 o24 b24 v240 v241 => ?_⟩
      exact ⟨rfl, _, rfl, ite2 (fun _ => ⟨_, rfl, by decide, by decide, o24, b24⟩) (fun _ => ⟨_, rfl, by decide, by decide, o24, b24⟩)⟩
    rintro v H24 ⟨m, rfl, m2, m7, o24, b24⟩
    have d24 := d23.oth o24 b24
    refine ⟨b, m, rfl, b24, by omega, by omega, fun v25 H25 o25 b25 v250 v251 => ?_⟩
    obtain ⟨n25, rfl⟩ : ∃ n : Nat, v25 = (n : Int) := ⟨v25.toNat, by omega⟩
    have d25 := d24.oth o25 b25
    obtain ⟨q, hq, tq, xq⟩ := odds n25 (by omega)
    refine ⟨od, _, _, _, rfl, rfl, .inl (.inl (o25 _ _ odb (o24 _ _ odb e23))), atI_nat hq, ?_⟩
    refine ⟨S, _, _, rfl, rfl, d25.s, (by rw [refs5_len]; exact small_le (by omega)), ?_⟩
    refine ⟨ls ++ [q], left', _, _, _, _, _, _, _, _, _, rfl, d25.app ((tq.oth o24 d23.bx).oth o25 d24.bx) xq, ?_⟩
    rw [List.length_append]
    show _ + 1 ≤ _
    omega
  · refine ⟨fun c H' => Same H15 H' ∧ (c = true → left' ≠ []), ?_, ?_⟩
    · refine ⟨_, rfl, _, _, rfl, rfl, _, rfl, ite2 (fun _ => ?_) (fun _ => ⟨Same.refl _, fun z => nomatch z⟩)⟩
      refine ⟨_, rfl, (by show 0 ≤ sizeLine; decide), fun q0 hq0 => ?_⟩
      have s16 := same_upd (o := .lst []) hq0
      exact ⟨Lf, q0, left', rfl, rfl, s16 _ _ d15.l, upd_same, (fun y hy => (d15.nm y hy).good), _, rfl, s16, fun z => by simpa using z⟩
    rintro c H16 ⟨s16, hc⟩
    have d16 := d15.same s16
    refine ite2 (fun z => ?_) (fun _ => ?_)
    · have ne := hc z
      refine ⟨.ref S, rfl, .inl ⟨rfl, _, .inl (.inl d16.s)⟩, ?_⟩
      have hlast : (left'.map V.str)[(left'.map V.str).length - 1]? = some (.str (left'.getLast ne)) := by
        rw [List.length_map]
        refine ix_map ?_
        rw [List.getLast_eq_getElem]
        exact List.getElem?_eq_getElem _
      have okl := d16.nm _ (List.getLast_mem ne)
      refine ⟨.ref Lf, rfl, .inl ⟨rfl, _, .inl (.inl d16.l)⟩, Lf, _, _, rfl, rfl, d16.l, hlast, ?_⟩
      have d17 := d16.pop
      refine ⟨(by show 2 ≤ sizeLine; decide), fun u H18 s18 n18 e18 => ?_⟩
      have d18 := d17.same s18
      refine ⟨S, _, _, rfl, rfl, d18.s, (by rw [refs5_len]; exact small_le (by omega)), ?_⟩
      refine ⟨ls ++ [(u, [("come" : Str), left'.getLast ne])], left'.dropLast, _, _, _, _, _, _, _, _, _, rfl, d18.app (q := (u, [("come" : Str), left'.getLast ne])) e18 ⟨Nat.le_refl _, fun x hx => ?_⟩, ?_⟩
      · rcases List.mem_cons.mp hx with h | h
        · rw [h]
          exact .inl (nb_iff.mp (by decide +kernel))
        · rw [List.mem_singleton.mp h]
          exact .inl okl
      · rw [List.length_append]
        show _ + 1 ≤ _
        omega
    · refine ⟨.ref S, rfl, .inl ⟨rfl, _, .inl (.inl d16.s)⟩, ?_⟩
      refine ⟨(by show 1 ≤ sizeLine; decide), fun u H18 s18 n18 e18 => ?_⟩
      have d18 := d16.same s18
      refine ⟨S, _, _, rfl, rfl, d18.s, (by rw [refs5_len]; exact small_le (by omega)), ?_⟩
      refine ⟨ls ++ [(u, [("serve" : Str)])], left', _, _, _, _, _, _, _, _, _, rfl, d18.app (q := (u, [("serve" : Str)])) e18 ⟨(by show 1 ≤ 2; decide), fun x hx => ?_⟩, ?_⟩
      · rw [List.mem_singleton.mp hx]
        exact .inl (nb_iff.mp (by decide +kernel))
      · rw [List.length_append]
        show _ + 1 ≤ _
        omega
/-! ### law, with tables -/
abbrev sLaw : Stmt := topS 36
abbrev nLaw : List Str := ["_law_script", "_law_cells_here", "_law_k"]
theorem scLaw : FnScope nLaw ["_law_script"] (defScope sLaw) := ⟨rfl, rfl, rfl, by decide +kernel, rfl, by decide +kernel, by decide +kernel⟩
theorem ok_lawG {f : Addr} {fd : FuncData} {n : Nat} {T : List (Addr × Str)} (B : Blt mg) (CC : Cal P w K mg base 1 "_law_cells" ["_law_script", "_law_utmost"] (spCells K)) (CX : Cal P w K mg base 1 "_law_box" ["_law_cells_here", "_law_k"] spBox) (CR : CalG P w K mg base (n + 1) "_law_right" ["_law_box_here"] (spRightN T)) (F : Fun K "law" "law" sLaw f fd) : FnOkG P w K mg base (n + 2) f fd ["_law_script"] (spLawN K T) := by
  refine fokG F rfl scLaw (fun vs H Q E h => ?_) (fun A outer s H vs Q E hr h => ?_)
  · obtain ⟨a, ns, rfl, _⟩ := h
    rfl
  obtain ⟨a, ns, rfl, ha, hn, hT, q⟩ := h
  have h1 : Room 1 _ := hr.r.mono (by omega)
  refine ⟨_, pss_cons (ps_set (i := 1) scLaw.nd rfl (.inr rfl) (pe_cal CC h1 (pa_cons (pv 0) (pa_cons pe_int pa_nil))))
    (pss_one (ps_ret (pe_callB (cr_all rfl) (by rfl) B.all (by decide +kernel) (pa_cons (pe_lc (own := [("_law_k", 2)]) (g := gName 2) (tt := tYes) rfl scLaw.nd (pi_range1 (by rfl) B.range (pa_cons (pe_callB call_len_seq (by rfl) B.len PySem.boot_len (pa_cons (pv 1) pa_nil)) pa_nil)) (blkOk_by (N := nLaw) (sc := defScope sLaw) (by decide +kernel))
      (fun _ _ _ _ _ => pg_name (i := 2) scLaw.nd rfl (Or.inl rfl)) (fun _ _ _ _ _ => pts_nil) (fun _ _ _ _ _ => pe_calG CR hr (pa_cons (pe_cal CX h1 (pa_cons (pv 1) (pa_cons (pv 2) pa_nil))) pa_nil))) pa_nil)))), ?_⟩
  refine ⟨.ref a, rfl, a, ns, _, rfl, ha, hn, by decide, by decide, fun c ms H1 s1 nc e1 m0 m3 => ?_⟩
  refine ⟨.ref c, rfl, c, _, rfl, .inl (.inl (.inl e1)), _, rfl, ?_, ?_, fun D hD => ?_⟩
  · rw [List.length_map]
    omega
  · rw [List.length_map]
    omega
  rw [List.length_map]
  have ncD : c ≠ D := ne_of_none e1 hD
  refine lc_it (walk_range (lo := 0) (n := ((ms.length : Int)).toNat)) (fun i H' => H' c = some (.lst (ms.map V.int)) ∧ H' D = some (.lst ((List.replicate i true).map V.bl)) ∧ Tabs T H') ?_ (fun _ _ _ _ => trivial) ?_ ?_
  · exact ⟨(upd_ne ncD).trans e1, upd_same, Tabs.same (same_upd hD) (Tabs.same s1 hT)⟩
  · rintro i x H3 H2 hi ⟨e2, d2, hT2⟩ ⟨rfl, rfl⟩
    have ei : (0 : Int) + (i : Int) = (i : Int) := Int.zero_add _
    refine ⟨rfl, ⟨.ref c, rfl, _, rfl, c, ms, i, congrArg (fun z => [V.ref c, V.int z]) ei, e2, by omega, by omega, fun b H4 s4 nb b4 => ?_⟩⟩
    have c4 := s4 _ _ e2
    have d4 := s4 _ _ d2
    have ncb : c ≠ b := ne_of_none e2 nb
    have nDb : D ≠ b := ne_of_none d2 nb
    refine ⟨b, rfl, b4, Tabs.same s4 hT2, fun H5 x5 hT5 => ?_⟩
    have c5 := x5.lst ncb c4
    have d5 := x5.lst nDb d4
    refine ⟨_, d5, ?_, (upd_ne ncD).trans c5, ?_, Tabs.lst d5 hT5⟩
    · rw [List.length_map, List.length_replicate]
      exact small1000 (by omega)
    · rw [upd_same, List.replicate_succ', List.map_append]
      rfl
  · rintro H2 ⟨e2, d2, hT2⟩
    refine ⟨D, _, rfl, .inl (.inl d2), ?_⟩
    rw [show (List.replicate ((ms.length : Int)).toNat true).all id = true by simp]
    exact q _
end
/-! ### what the top has written; the law's own head -/
theorem all_mk {l : PySem.W.OpenLaw} {w : World} {K : PySem.W.Frag} {h : Heap} {mg : Str → Option Value} {fa f1 f2 f3 f4 f5 f6 f7 f8 f9 f10 f11 f12 f13 f14 f15 f16 f17 f18 f19 f20 f21 f22 f23 f24 f25 f26 f27 : Addr} (XK : K.In h) (G : h.Ns mainGlobals mg) (hfa : mg "law" = some (.ref fa))
    {od1 an1 od2 an2 od3 an3 od4 an4 od5 an5 od6 an6 od7 an7 od8 an8 od9 an9 od10 an10 od11 an11 od12 an12 od13 an13 od14 an14 od15 an15 od16 an16 od17 an17 od18 an18 od19 an19 od20 an20 od21 an21 od22 an22 od23 an23 od24 an24 od25 an25 od26 an26 od27 an27 : Option Addr} {sl1 sl2 sl3 sl4 sl5 sl6 sl7 sl8 sl9 sl10 sl11 sl12 sl13 sl14 sl15 sl16 sl17 sl18 sl19 sl20 sl21 sl22 sl23 sl24 sl25 sl26 sl27 : Array (Option Value)} {oc1 kV1 dc1 pm1 cd1 ct1 oc2 kV2 dc2 pm2 cd2 ct2 oc3 kV3 dc3 pm3 cd3 ct3 oc4 kV4 dc4 pm4 cd4 ct4 oc5 kV5 dc5 pm5 cd5 ct5 oc6 kV6 dc6 pm6 cd6 ct6 oc7 kV7 dc7 pm7 cd7 ct7 oc8 kV8 dc8 pm8 cd8 ct8 oc9 kV9 dc9 pm9 cd9 ct9 oc10 dc10 pm10 cd10 ct10 oc11 kV11 dc11 pm11 cd11 ct11 oc12 kV12 dc12 pm12 cd12 ct12 oc13 kV13 dc13 pm13 cd13 ct13 oc14 kV14 dc14 pm14 cd14 ct14 oc15 kV15 dc15 pm15 cd15 ct15 oc16 kV16 dc16 pm16 cd16 ct16 oc17 kV17 dc17 pm17 cd17 ct17 oc18 kV18 dc18 pm18 cd18 ct18 oc19 kV19 dc19 pm19 cd19 ct19 oc20 kV20 dc20 pm20 cd20 ct20 oc21 kV21 dc21 pm21 cd21 ct21 oc22 kV22 dc22 pm22 cd22 ct22 oc23 kV23 dc23 pm23 cd23 ct23 oc24 kV24 dc24 pm24 cd24 ct24 oc25 kV25 dc25 pm25 cd25 ct25 oc26 kV26 dc26 pm26 cd26 ct26 oc27 kV27 dc27 pm27 cd27 ct27 : Value}
    (a1 : PySem.W.nsIn K mainGlobals "is_name" = some (some (.ref f1))) (l1 : K.lookup f1 = some ⟨oc1, od1, .func (PySem.W.fnOf "is_name" "is_name" (defArgs sIsName) (defBody sIsName) (defScope sIsName) .none kV1 dc1 pm1 an1 cd1 ct1), sl1⟩) (c1 : PySem.W.codeIn K cd1 "is_name" = true) (k1 : PySem.W.keepIn K (.ref f1) = true)
    (a2 : PySem.W.nsIn K mainGlobals "both_ways" = some (some (.ref f2))) (l2 : K.lookup f2 = some ⟨oc2, od2, .func (PySem.W.fnOf "both_ways" "both_ways" (defArgs sBoth) (defBody sBoth) (defScope sBoth) .none kV2 dc2 pm2 an2 cd2 ct2), sl2⟩) (c2 : PySem.W.codeIn K cd2 "both_ways" = true) (k2 : PySem.W.keepIn K (.ref f2) = true)
    (a3 : PySem.W.nsIn K mainGlobals "last_friend_place" = some (some (.ref f3))) (l3 : K.lookup f3 = some ⟨oc3, od3, .func (PySem.W.fnOf "last_friend_place" "last_friend_place" (defArgs sLfp) (defBody sLfp) (defScope sLfp) .none kV3 dc3 pm3 an3 cd3 ct3), sl3⟩) (c3 : PySem.W.codeIn K cd3 "last_friend_place" = true) (k3 : PySem.W.keepIn K (.ref f3) = true)
    (a4 : PySem.W.nsIn K mainGlobals "host_place" = some (some (.ref f4))) (l4 : K.lookup f4 = some ⟨oc4, od4, .func (PySem.W.fnOf "host_place" "host_place" (defArgs sHostP) (defBody sHostP) (defScope sHostP) .none kV4 dc4 pm4 an4 cd4 ct4), sl4⟩) (c4 : PySem.W.codeIn K cd4 "host_place" = true) (k4 : PySem.W.keepIn K (.ref f4) = true)
    (a5 : PySem.W.nsIn K mainGlobals "coming_place" = some (some (.ref f5))) (l5 : K.lookup f5 = some ⟨oc5, od5, .func (PySem.W.fnOf "coming_place" "coming_place" (defArgs sComingP) (defBody sComingP) (defScope sComingP) .none kV5 dc5 pm5 an5 cd5 ct5), sl5⟩) (c5 : PySem.W.codeIn K cd5 "coming_place" = true) (k5 : PySem.W.keepIn K (.ref f5) = true)
    (a6 : PySem.W.nsIn K mainGlobals "stood_in" = some (some (.ref f6))) (l6 : K.lookup f6 = some ⟨oc6, od6, .func (PySem.W.fnOf "stood_in" "stood_in" (defArgs sStood) (defBody sStood) (defScope sStood) .none kV6 dc6 pm6 an6 cd6 ct6), sl6⟩) (c6 : PySem.W.codeIn K cd6 "stood_in" = true) (k6 : PySem.W.keepIn K (.ref f6) = true)
    (a7 : PySem.W.nsIn K mainGlobals "let_in" = some (some (.ref f7))) (l7 : K.lookup f7 = some ⟨oc7, od7, .func (PySem.W.fnOf "let_in" "let_in" (defArgs sLetIn) (defBody sLetIn) (defScope sLetIn) .none kV7 dc7 pm7 an7 cd7 ct7), sl7⟩) (c7 : PySem.W.codeIn K cd7 "let_in" = true) (k7 : PySem.W.keepIn K (.ref f7) = true)
    (a8 : PySem.W.nsIn K mainGlobals "reads_as_deed" = some (some (.ref f8))) (l8 : K.lookup f8 = some ⟨oc8, od8, .func (PySem.W.fnOf "reads_as_deed" "reads_as_deed" (defArgs sReads) (defBody sReads) (defScope sReads) .none kV8 dc8 pm8 an8 cd8 ct8), sl8⟩) (c8 : PySem.W.codeIn K cd8 "reads_as_deed" = true) (k8 : PySem.W.keepIn K (.ref f8) = true)
    (a9 : PySem.W.nsIn K mainGlobals "can_be_done" = some (some (.ref f9))) (l9 : K.lookup f9 = some ⟨oc9, od9, .func (PySem.W.fnOf "can_be_done" "can_be_done" (defArgs sCanBe) (defBody sCanBe) (defScope sCanBe) .none kV9 dc9 pm9 an9 cd9 ct9), sl9⟩) (c9 : PySem.W.codeIn K cd9 "can_be_done" = true) (k9 : PySem.W.keepIn K (.ref f9) = true)
    {kD10 kE10 : Addr} {kd10 : Option Addr} {ks10 : Array (Option Value)} {kn10 : Nat} (a10 : PySem.W.nsIn K mainGlobals "done" = some (some (.ref f10))) (l10 : K.lookup f10 = some ⟨oc10, od10, .func (PySem.W.fnOf "done" "done" (defArgs sDone) (defBody sDone) (defScope sDone) .none (.ref kD10) dc10 pm10 an10 cd10 ct10), sl10⟩) (c10 : PySem.W.codeIn K cd10 "done" = true) (k10 : PySem.W.keepIn K (.ref f10) = true) (n10 : PySem.W.nsIn K kD10 "row" = some (some (.ref kE10))) (e10 : K.lookup kE10 = some ⟨.type "tuple", kd10, .seq #[] kn10, ks10⟩)
    (a11 : PySem.W.nsIn K mainGlobals "_law_box" = some (some (.ref f11))) (l11 : K.lookup f11 = some ⟨oc11, od11, .func (PySem.W.fnOf "_law_box" "_law_box" (defArgs sBox) (defBody sBox) (defScope sBox) .none kV11 dc11 pm11 an11 cd11 ct11), sl11⟩) (c11 : PySem.W.codeIn K cd11 "_law_box" = true) (k11 : PySem.W.keepIn K (.ref f11) = true)
    (a12 : PySem.W.nsIn K mainGlobals "_law_take" = some (some (.ref f12))) (l12 : K.lookup f12 = some ⟨oc12, od12, .func (PySem.W.fnOf "_law_take" "_law_take" (defArgs sTake) (defBody sTake) (defScope sTake) .none kV12 dc12 pm12 an12 cd12 ct12), sl12⟩) (c12 : PySem.W.codeIn K cd12 "_law_take" = true) (k12 : PySem.W.keepIn K (.ref f12) = true)
    (a13 : PySem.W.nsIn K mainGlobals "_law_cells" = some (some (.ref f13))) (l13 : K.lookup f13 = some ⟨oc13, od13, .func (PySem.W.fnOf "_law_cells" "_law_cells" (defArgs sCells) (defBody sCells) (defScope sCells) .none kV13 dc13 pm13 an13 cd13 ct13), sl13⟩) (c13 : PySem.W.codeIn K cd13 "_law_cells" = true) (k13 : PySem.W.keepIn K (.ref f13) = true)
    (a14 : PySem.W.nsIn K mainGlobals "_law_names" = some (some (.ref f14))) (l14 : K.lookup f14 = some ⟨oc14, od14, .func (PySem.W.fnOf "_law_names" "_law_names" (defArgs sNames) (defBody sNames) (defScope sNames) .none kV14 dc14 pm14 an14 cd14 ct14), sl14⟩) (c14 : PySem.W.codeIn K cd14 "_law_names" = true) (k14 : PySem.W.keepIn K (.ref f14) = true)
    (a15 : PySem.W.nsIn K mainGlobals "_law_pals" = some (some (.ref f15))) (l15 : K.lookup f15 = some ⟨oc15, od15, .func (PySem.W.fnOf "_law_pals" "_law_pals" (defArgs sPals) (defBody sPals) (defScope sPals) .none kV15 dc15 pm15 an15 cd15 ct15), sl15⟩) (c15 : PySem.W.codeIn K cd15 "_law_pals" = true) (k15 : PySem.W.keepIn K (.ref f15) = true)
    (a16 : PySem.W.nsIn K mainGlobals "_law_are" = some (some (.ref f16))) (l16 : K.lookup f16 = some ⟨oc16, od16, .func (PySem.W.fnOf "_law_are" "_law_are" (defArgs sAre) (defBody sAre) (defScope sAre) .none kV16 dc16 pm16 an16 cd16 ct16), sl16⟩) (c16 : PySem.W.codeIn K cd16 "_law_are" = true) (k16 : PySem.W.keepIn K (.ref f16) = true)
    (a17 : PySem.W.nsIn K mainGlobals "_law_come" = some (some (.ref f17))) (l17 : K.lookup f17 = some ⟨oc17, od17, .func (PySem.W.fnOf "_law_come" "_law_come" (defArgs sCome) (defBody sCome) (defScope sCome) .none kV17 dc17 pm17 an17 cd17 ct17), sl17⟩) (c17 : PySem.W.codeIn K cd17 "_law_come" = true) (k17 : PySem.W.keepIn K (.ref f17) = true)
    (a18 : PySem.W.nsIn K mainGlobals "_law_stand_of" = some (some (.ref f18))) (l18 : K.lookup f18 = some ⟨oc18, od18, .func (PySem.W.fnOf "_law_stand_of" "_law_stand_of" (defArgs sStandOf) (defBody sStandOf) (defScope sStandOf) .none kV18 dc18 pm18 an18 cd18 ct18), sl18⟩) (c18 : PySem.W.codeIn K cd18 "_law_stand_of" = true) (k18 : PySem.W.keepIn K (.ref f18) = true)
    (a19 : PySem.W.nsIn K mainGlobals "_law_strewn" = some (some (.ref f19))) (l19 : K.lookup f19 = some ⟨oc19, od19, .func (PySem.W.fnOf "_law_strewn" "_law_strewn" (defArgs sStrewn) (defBody sStrewn) (defScope sStrewn) .none kV19 dc19 pm19 an19 cd19 ct19), sl19⟩) (c19 : PySem.W.codeIn K cd19 "_law_strewn" = true) (k19 : PySem.W.keepIn K (.ref f19) = true)
    (a20 : PySem.W.nsIn K mainGlobals "_law_same" = some (some (.ref f20))) (l20 : K.lookup f20 = some ⟨oc20, od20, .func (PySem.W.fnOf "_law_same" "_law_same" (defArgs sSame) (defBody sSame) (defScope sSame) .none kV20 dc20 pm20 an20 cd20 ct20), sl20⟩) (c20 : PySem.W.codeIn K cd20 "_law_same" = true) (k20 : PySem.W.keepIn K (.ref f20) = true)
    (a21 : PySem.W.nsIn K mainGlobals "_law_thinned" = some (some (.ref f21))) (l21 : K.lookup f21 = some ⟨oc21, od21, .func (PySem.W.fnOf "_law_thinned" "_law_thinned" (defArgs sThinned) (defBody sThinned) (defScope sThinned) .none kV21 dc21 pm21 an21 cd21 ct21), sl21⟩) (c21 : PySem.W.codeIn K cd21 "_law_thinned" = true) (k21 : PySem.W.keepIn K (.ref f21) = true)
    (a22 : PySem.W.nsIn K mainGlobals "_law_fine_stand" = some (some (.ref f22))) (l22 : K.lookup f22 = some ⟨oc22, od22, .func (PySem.W.fnOf "_law_fine_stand" "_law_fine_stand" (defArgs sFine) (defBody sFine) (defScope sFine) .none kV22 dc22 pm22 an22 cd22 ct22), sl22⟩) (c22 : PySem.W.codeIn K cd22 "_law_fine_stand" = true) (k22 : PySem.W.keepIn K (.ref f22) = true)
    (a23 : PySem.W.nsIn K mainGlobals "_law_any_stand" = some (some (.ref f23))) (l23 : K.lookup f23 = some ⟨oc23, od23, .func (PySem.W.fnOf "_law_any_stand" "_law_any_stand" (defArgs sAny) (defBody sAny) (defScope sAny) .none kV23 dc23 pm23 an23 cd23 ct23), sl23⟩) (c23 : PySem.W.codeIn K cd23 "_law_any_stand" = true) (k23 : PySem.W.keepIn K (.ref f23) = true)
    (a24 : PySem.W.nsIn K mainGlobals "_law_due" = some (some (.ref f24))) (l24 : K.lookup f24 = some ⟨oc24, od24, .func (PySem.W.fnOf "_law_due" "_law_due" (defArgs sDue) (defBody sDue) (defScope sDue) .none kV24 dc24 pm24 an24 cd24 ct24), sl24⟩) (c24 : PySem.W.codeIn K cd24 "_law_due" = true) (k24 : PySem.W.keepIn K (.ref f24) = true)
    (a25 : PySem.W.nsIn K mainGlobals "_law_asked" = some (some (.ref f25))) (l25 : K.lookup f25 = some ⟨oc25, od25, .func (PySem.W.fnOf "_law_asked" "_law_asked" (defArgs sAsk17) (defBody sAsk17) (defScope sAsk17) .none kV25 dc25 pm25 an25 cd25 ct25), sl25⟩) (c25 : PySem.W.codeIn K cd25 "_law_asked" = true) (k25 : PySem.W.keepIn K (.ref f25) = true)
    (a26 : PySem.W.nsIn K mainGlobals "_law_right" = some (some (.ref f26))) (l26 : K.lookup f26 = some ⟨oc26, od26, .func (PySem.W.fnOf "_law_right" "_law_right" (defArgs sRight) (defBody sRight) (defScope sRight) .none kV26 dc26 pm26 an26 cd26 ct26), sl26⟩) (c26 : PySem.W.codeIn K cd26 "_law_right" = true) (k26 : PySem.W.keepIn K (.ref f26) = true)
    (a27 : PySem.W.nsIn K mainGlobals "law" = some (some (.ref f27))) (l27 : K.lookup f27 = some ⟨oc27, od27, .func (PySem.W.fnOf "law" "law" (defArgs sLaw) (defBody sLaw) (defScope sLaw) .none kV27 dc27 pm27 an27 cd27 ct27), sl27⟩) (c27 : PySem.W.codeIn K cd27 "law" = true) (k27 : PySem.W.keepIn K (.ref f27) = true)
    {tq1 : Tok} (q1 : PySem.W.nsIn K mainGlobals "LONGEST_NAME" = some (some (.int 8 tq1)))
    (z1 : PySem.W.nsIn K mainGlobals "len" = some none)
    (z2 : PySem.W.nsIn K mainGlobals "abs" = some none)
    (z3 : PySem.W.nsIn K mainGlobals "int" = some none)
    (z4 : PySem.W.nsIn K mainGlobals "list" = some none)
    (z5 : PySem.W.nsIn K mainGlobals "tuple" = some none)
    (z6 : PySem.W.nsIn K mainGlobals "enumerate" = some none)
    (z7 : PySem.W.nsIn K mainGlobals "range" = some none)
    (z8 : PySem.W.nsIn K mainGlobals "min" = some none)
    (z9 : PySem.W.nsIn K mainGlobals "max" = some none)
    (z10 : PySem.W.nsIn K mainGlobals "sorted" = some none)
    (z11 : PySem.W.nsIn K mainGlobals "isinstance" = some none)
    (z12 : PySem.W.nsIn K mainGlobals "zip" = some none)
    (z13 : PySem.W.nsIn K mainGlobals "all" = some none)
    (z14 : PySem.W.nsIn K mainGlobals "str" = some none)
    (z15 : PySem.W.nsIn K mainGlobals "bool" = some none)
    (z16 : PySem.W.nsIn K mainGlobals "any" = some none)
    (z17 : PySem.W.nsIn K mainGlobals "repr" = some none)
    (z18 : PySem.W.nsIn K mainGlobals "set" = some none)
    (z19 : PySem.W.nsIn K mainGlobals "sum" = some none)
    (z20 : PySem.W.nsIn K mainGlobals "reversed" = some none)
    (z21 : PySem.W.nsIn K mainGlobals "dict" = some none)
    {CBadDeed : Addr}
    (x0a : PySem.W.nsIn K mainGlobals "BadDeed" = some (some (.ref CBadDeed)))
    (x0e : PySem.W.subIn K (.ref CBadDeed) (.type "BaseException") = some true)
    (x0f : PySem.W.typeIn K (.ref CBadDeed) = some (.type "type"))
    (x0g : PySem.W.isClsIn K CBadDeed = true)
    (x0h : PySem.W.subIn K (.ref CBadDeed) (.ref CBadDeed) = some true)
    (x0n : PySem.W.subIn K (.type "NoneType") (.ref CBadDeed) = some false)
    {fIBadDeed N0 : Addr} {nm0 q0_ : Str} {bs0 : List Value} {sn0 : List Str} {sub0 : List Value} {ab0 : Bool} {col0 : Option Bool} {dd0 : Option Addr} {m0_0 m0_1 m0_2 m0_3 m0_5 : Option Value} {od0X an0X : Option Addr} {sl0X : Array (Option Value)} {oc0X kV0X dc0X pm0X cd0X ct0X : Value}
    (x0b : K.lookup CBadDeed = some (excClassObj nm0 q0_ CBadDeed N0 bs0 (mroB "ValueError") true sn0 sub0 ab0 col0 dd0 m0_0 m0_1 m0_2 m0_3 m0_5 "ValueError.__new__"))
    (x0c : PySem.W.findIn K (.ref CBadDeed) "__setattr__" = some (some (.builtin "object.__setattr__")))
    (x0d : PySem.W.keepIn K (.ref CBadDeed) = true)
    (x0i : PySem.W.findIn K (.ref CBadDeed) "__init__" = some (some (.ref fIBadDeed)))
    (x0j : PySem.W.typeIn K (.ref fIBadDeed) = some (.type "function"))
    (x0k : K.lookup fIBadDeed = some ⟨oc0X, od0X, .func (PySem.W.fnOf "__init__" "BadDeed.__init__" (defArgs sIBadDeed) (defBody sIBadDeed) (defScope sIBadDeed) .none kV0X dc0X pm0X an0X cd0X ct0X), sl0X⟩)
    (x0l : PySem.W.codeIn K cd0X "BadDeed.__init__" = true)
    (x0m : PySem.W.keepIn K (.ref fIBadDeed) = true)
    (x0o : PySem.W.findCls K (.type "ValueError") (.type "type") "__init__" = some (.val (.builtin "ValueError.__init__")))
    (x0p : PySem.W.nsIn K mainGlobals "ValueError" = some none)
    (x0q : PySem.W.subIn K (.ref CBadDeed) (.type "ValueError") = some true)
    (x0r : PySem.W.findIn K (.ref CBadDeed) "__getattribute__" = some (some (.builtin "BaseException.__getattribute__")))
    (x0s : PySem.W.findIn K (.ref CBadDeed) "__getattr__" = some none)
    (x0t : PySem.W.hasDictIn K CBadDeed = true)
    (x0u : PySem.W.findIn K (.ref CBadDeed) "__class__" = some (some (.builtin "object.__class__")))
    (x0v : PySem.W.specialIn K (.builtin "object.__class__") "__get__" = some (some (.builtin "getset_descriptor.__get__")))
    (x0w : PySem.W.takesIn K (.builtin "object.__class__") = some true)
    (x0y : PySem.W.mroIn K CBadDeed (.type "object") = some true)
    (x0z_number : PySem.W.findIn K (.ref CBadDeed) "number" = some none)
    {CAstray : Addr}
    (x1a : PySem.W.nsIn K mainGlobals "Astray" = some (some (.ref CAstray)))
    (x1e : PySem.W.subIn K (.ref CAstray) (.type "BaseException") = some true)
    (x1f : PySem.W.typeIn K (.ref CAstray) = some (.type "type"))
    (x1g : PySem.W.isClsIn K CAstray = true)
    (x1h : PySem.W.subIn K (.ref CAstray) (.ref CAstray) = some true)
    (x1n : PySem.W.subIn K (.type "NoneType") (.ref CAstray) = some false)
    {CBadText : Addr}
    (x2a : PySem.W.nsIn K mainGlobals "BadText" = some (some (.ref CBadText)))
    (x2e : PySem.W.subIn K (.ref CBadText) (.type "BaseException") = some true)
    (x2f : PySem.W.typeIn K (.ref CBadText) = some (.type "type"))
    (x2g : PySem.W.isClsIn K CBadText = true)
    (x2h : PySem.W.subIn K (.ref CBadText) (.ref CBadText) = some true)
    (x2n : PySem.W.subIn K (.type "NoneType") (.ref CBadText) = some false)
    (y0_1 : PySem.W.subIn K (.ref CBadDeed) (.ref CAstray) = some false)
    (y0_2 : PySem.W.subIn K (.ref CBadDeed) (.ref CBadText) = some false)
    {cLM PLM : Addr} {odLM : Option Addr} {vsLM : Array Value} {slLM : Array (Option Value)} (tc : cd26 = .ref cLM) (tb : K.lookup cLM = some ⟨.type "code", odLM, .fields vsLM, slLM⟩) (tg : vsLM[11]? = some (.ref PLM)) (td : PySem.W.codeHdIn K cLM PLM = true) (te : K.lookup PLM = none) (tf : h.get? PLM = some { cls := .none, data := .fields #[] })
    : ∃ (fd : FuncData) (c PT : Addr) (sp : Sp), h.get? PT = some { cls := .none, data := .fields #[] } ∧ K.lookup PT = none ∧ PySem.W.codeHdIn K c PT = true ∧ (∀ (s : Shared) (u : Value), BindsTo s fd ⟨[u], []⟩ [("_law_script", u)]) ∧ (∀ (H : Hp) (a : Addr) (ns : List Int), ns.length ≤ 63 → H PT = some (.tbl #[]) → SqL K H a (ns.map V.int) → sp [.ref a] H (fun v _ => v = .bl true) fun _ _ _ => False) ∧ ∀ base : Heap, K.In base → base.Ns mainGlobals mg → LamX.TabB base mg c PT → FnOkG l.prog w K mg base 10 fa fd ["_law_script"] sp := by
  have e := hfa.symm.trans (PySem.W.mg_of XK G a27)
  cases e
  have FIn := fun_mk (st := sIsName) l1 c1 k1
  have gIn := PySem.W.mg_of XK G a1
  have bIn := FIn.binds (ps := ["thing"]) fun _ _ _ _ _ _ us hl => match us, hl with | [_], _ => rfl
  have FBo := fun_mk (st := sBoth) l2 c2 k2
  have gBo := PySem.W.mg_of XK G a2
  have bBo := FBo.binds (ps := ["friends"]) fun _ _ _ _ _ _ us hl => match us, hl with | [_], _ => rfl
  have FL := fun_mk (st := sLfp) l3 c3 k3
  have gL := PySem.W.mg_of XK G a3
  have bL := FL.binds (ps := ["known", "row", "who"]) fun _ _ _ _ _ _ us hl => match us, hl with | [_, _, _], _ => rfl
  have FHp := fun_mk (st := sHostP) l4 c4 k4
  have gHp := PySem.W.mg_of XK G a4
  have bHp := FHp.binds (ps := ["known", "row", "who"]) fun _ _ _ _ _ _ us hl => match us, hl with | [_, _, _], _ => rfl
  have FCp := fun_mk (st := sComingP) l5 c5 k5
  have gCp := PySem.W.mg_of XK G a5
  have bCp := FCp.binds (ps := ["known", "row", "who"]) fun _ _ _ _ _ _ us hl => match us, hl with | [_, _, _], _ => rfl
  have FSn := fun_mk (st := sStood) l6 c6 k6
  have gSn := PySem.W.mg_of XK G a6
  have bSn := FSn.binds (ps := ["known", "row", "who"]) fun _ _ _ _ _ _ us hl => match us, hl with | [_, _, _], _ => rfl
  have FLe := fun_mk (st := sLetIn) l7 c7 k7
  have gLe := PySem.W.mg_of XK G a7
  have bLe := FLe.binds (ps := ["friends", "row", "who"]) fun _ _ _ _ _ _ us hl => match us, hl with | [_, _, _], _ => rfl
  have FRds := fun_mk (st := sReads) l8 c8 k8
  have gRds := PySem.W.mg_of XK G a8
  have bRds := FRds.binds (ps := ["thing"]) fun _ _ _ _ _ _ us hl => match us, hl with | [_], _ => rfl
  have FCbd := fun_mk (st := sCanBe) l9 c9 k9
  have gCbd := PySem.W.mg_of XK G a9
  have bCbd := FCbd.binds (ps := ["deed", "row", "been"]) fun _ _ _ _ _ _ us hl => match us, hl with | [_, _, _], _ => rfl
  have gDn := PySem.W.mg_of XK G a10
  have FX := fun_mk (st := sBox) l11 c11 k11
  have gX := PySem.W.mg_of XK G a11
  have bX := FX.binds (ps := ["_law_cells_here", "_law_k"]) fun _ _ _ _ _ _ us hl => match us, hl with | [_, _], _ => rfl
  have FT := fun_mk (st := sTake) l12 c12 k12
  have gT := PySem.W.mg_of XK G a12
  have bT := FT.binds (ps := ["_law_box_here", "_law_many"]) fun _ _ _ _ _ _ us hl => match us, hl with | [_, _], _ => rfl
  have FC := fun_mk (st := sCells) l13 c13 k13
  have gC := PySem.W.mg_of XK G a13
  have bC := FC.binds (ps := ["_law_script", "_law_utmost"]) fun _ _ _ _ _ _ us hl => match us, hl with | [_, _], _ => rfl
  have FN := fun_mk (st := sNames) l14 c14 k14
  have gN := PySem.W.mg_of XK G a14
  have bN := FN.binds (ps := ["_law_box_here", "_law_many"]) fun _ _ _ _ _ _ us hl => match us, hl with | [_, _], _ => rfl
  have FP := fun_mk (st := sPals) l15 c15 k15
  have gP := PySem.W.mg_of XK G a15
  have bP := FP.binds (ps := ["_law_box_here", "_law_pool"]) fun _ _ _ _ _ _ us hl => match us, hl with | [_, _], _ => rfl
  have FA := fun_mk (st := sAre) l16 c16 k16
  have gA := PySem.W.mg_of XK G a16
  have bA := FA.binds (ps := ["_law_pals_here", "_law_mine", "_law_its"]) fun _ _ _ _ _ _ us hl => match us, hl with | [_, _, _], _ => rfl
  have FCo := fun_mk (st := sCome) l17 c17 k17
  have gCo := PySem.W.mg_of XK G a17
  have bCo := FCo.binds (ps := ["_law_pals_here", "_law_stand", "_law_name"]) fun _ _ _ _ _ _ us hl => match us, hl with | [_, _, _], _ => rfl
  have FS := fun_mk (st := sStandOf) l18 c18 k18
  have gS := PySem.W.mg_of XK G a18
  have bS := FS.binds (ps := ["_law_pals_here", "_law_some"]) fun _ _ _ _ _ _ us hl => match us, hl with | [_, _], _ => rfl
  have FW := fun_mk (st := sStrewn) l19 c19 k19
  have gW := PySem.W.mg_of XK G a19
  have bW := FW.binds (ps := ["_law_box_here", "_law_some"]) fun _ _ _ _ _ _ us hl => match us, hl with | [_, _], _ => rfl
  have FSa := fun_mk (st := sSame) l20 c20 k20
  have gSa := PySem.W.mg_of XK G a20
  have bSa := FSa.binds (ps := ["_law_found", "_law_due_here"]) fun _ _ _ _ _ _ us hl => match us, hl with | [_, _], _ => rfl
  have FH := fun_mk (st := sThinned) l21 c21 k21
  have gH := PySem.W.mg_of XK G a21
  have bH := FH.binds (ps := ["_law_some", "_law_name"]) fun _ _ _ _ _ _ us hl => match us, hl with | [_, _], _ => rfl
  have FFi := fun_mk (st := sFine) l22 c22 k22
  have gFi := PySem.W.mg_of XK G a22
  have bFi := FFi.binds (ps := ["_law_box_here", "_law_pals_here", "_law_pool"]) fun _ _ _ _ _ _ us hl => match us, hl with | [_, _, _], _ => rfl
  have FY := fun_mk (st := sAny) l23 c23 k23
  have gY := PySem.W.mg_of XK G a23
  have bY := FY.binds (ps := ["_law_box_here", "_law_pals_here", "_law_pool"]) fun _ _ _ _ _ _ us hl => match us, hl with | [_, _, _], _ => rfl
  have FDu := fun_mk (st := sDue) l24 c24 k24
  have gDu := PySem.W.mg_of XK G a24
  have bDu := FDu.binds (ps := ["_law_pals_here", "_law_stand", "_law_some"]) fun _ _ _ _ _ _ us hl => match us, hl with | [_, _, _], _ => rfl
  have FAsk17 := fun_mk (st := sAsk17) l25 c25 k25
  have gAsk17 := PySem.W.mg_of XK G a25
  have bAsk17 := FAsk17.binds (ps := ["_law_ask"]) fun _ _ _ _ _ _ us hl => match us, hl with | [_], _ => rfl
  have FR := fun_mk (st := sRight) l26 c26 k26
  have gR := PySem.W.mg_of XK G a26
  have bR := FR.binds (ps := ["_law_box_here"]) fun _ _ _ _ _ _ us hl => match us, hl with | [_], _ => rfl
  have FLaw := fun_mk (st := sLaw) l27 c27 k27
  have gLaw := PySem.W.mg_of XK G a27
  have bLaw := FLaw.binds (ps := ["_law_script"]) fun _ _ _ _ _ _ us hl => match us, hl with | [_], _ => rfl
  have B : Blt mg := ⟨PySem.W.mg_none_of XK G z1, PySem.W.mg_none_of XK G z2, PySem.W.mg_none_of XK G z3, PySem.W.mg_none_of XK G z4, PySem.W.mg_none_of XK G z5, PySem.W.mg_none_of XK G z6, PySem.W.mg_none_of XK G z7, PySem.W.mg_none_of XK G z8, PySem.W.mg_none_of XK G z9, PySem.W.mg_none_of XK G z10, PySem.W.mg_none_of XK G z11, PySem.W.mg_none_of XK G z12, PySem.W.mg_none_of XK G z13, PySem.W.mg_none_of XK G z14, PySem.W.mg_none_of XK G z15, PySem.W.mg_none_of XK G z16, PySem.W.mg_none_of XK G z17, PySem.W.mg_none_of XK G z18, PySem.W.mg_none_of XK G z19, PySem.W.mg_none_of XK G z20, PySem.W.mg_none_of XK G z21⟩
  have hLONGEST_NAME : ∃ u, mg "LONGEST_NAME" = some u ∧ RelV (.int 8) u := ⟨_, PySem.W.mg_of XK G q1, ⟨_, rfl⟩⟩
  refine ⟨PySem.W.fnOf "law" "law" (defArgs sLaw) (defBody sLaw) (defScope sLaw) .none kV27 dc27 pm27 an27 cd27 ct27, cLM, PLM, spLawN K [(PLM, qLam)], tf, te, td, fun s u => .of_eq rfl, (fun H a ns hl hH hS => ⟨a, ns, rfl, hS, hl, (fun p hp => by rw [List.mem_singleton.mp hp]; exact LamX.TabS.nil hH), fun _ => rfl⟩), fun base _ _ TT => ?_⟩
  have TBadDeed : OwnK K mg "BadDeed" "ValueError" "ValueError.__new__" "ValueError.__init__" "ValueError" CBadDeed fIBadDeed := { g := PySem.W.mg_of XK G x0a, is := x0g, ty := x0f, ex := x0e, self := x0h, non := x0n, O := { cls := ⟨nm0, q0_, N0, bs0, sn0, sub0, ab0, col0, dd0, m0_0, m0_1, m0_2, m0_3, m0_5, x0b⟩, sa := x0c, exC := x0e, tyC := x0f, kC := x0d }, iC := x0i, tI := x0j, E := { hg := x0r, hk := x0s, hs := x0e, hd := x0t, ha := x0u, hn := x0v, ht := x0w, hm := x0y }, vB := x0o, nB := PySem.W.mg_none_of XK G x0p, sB := x0q }
  have noBadDeed_number := x0z_number
  have FFBadDeed := fun_mk (st := sIBadDeed) x0k x0l x0m
  have FIBadDeed := ok_iBadDeed (P := l.prog) (w := w) (base := base) TBadDeed noBadDeed_number FFBadDeed
  have bIBadDeed := FFBadDeed.binds (ps := nIBadDeed) fun _ _ _ _ _ _ us hl => match us, hl with | [_, _], _ => rfl
  have TAstray : ClsK K mg "Astray" CAstray := { g := PySem.W.mg_of XK G x1a, is := x1g, ty := x1f, ex := x1e, self := x1h, non := x1n }
  have TBadText : ClsK K mg "BadText" CBadText := { g := PySem.W.mg_of XK G x2a, is := x2g, ty := x2f, ex := x2e, self := x2h, non := x2n }
  have nBadDeed_Astray := y0_1
  have nBadDeed_BadText := y0_2
  have cIn : Cal l.prog w K mg base 1 "is_name" _ spIsNm := ⟨_, _, ok_isNm B hLONGEST_NAME FIn, gIn, FIn.kp, bIn⟩
  have cBo : Cal l.prog w K mg base 1 "both_ways" _ spBoth := ⟨_, _, ok_both FBo, gBo, FBo.kp, bBo⟩
  have cL : Cal l.prog w K mg base 1 "last_friend_place" _ spLfp := ⟨_, _, ok_lfp B FL, gL, FL.kp, bL⟩
  have cHp : Cal l.prog w K mg base 2 "host_place" _ spHostP := ⟨_, _, ok_hostP cL FHp, gHp, FHp.kp, bHp⟩
  have cCp : Cal l.prog w K mg base 3 "coming_place" _ spComingP := ⟨_, _, ok_comingP B cHp FCp, gCp, FCp.kp, bCp⟩
  have cSn : Cal l.prog w K mg base 4 "stood_in" _ spStood := ⟨_, _, ok_stood B cCp FSn, gSn, FSn.kp, bSn⟩
  have cLe : Cal l.prog w K mg base 5 "let_in" _ spLetIn := ⟨_, _, ok_letIn cBo cSn FLe, gLe, FLe.kp, bLe⟩
  have cRds : Cal l.prog w K mg base 2 "reads_as_deed" _ spRds5 := ⟨_, _, ok_rds5 B cIn FRds, gRds, FRds.kp, bRds⟩
  have cCbd : Cal l.prog w K mg base 1 "can_be_done" _ spCan5 := ⟨_, _, ok_can5 B FCbd, gCbd, FCbd.kp, bCbd⟩
  have cX : Cal l.prog w K mg base 1 "_law_box" _ spBox := ⟨_, _, ok_box B FX, gX, FX.kp, bX⟩
  have cT : Cal l.prog w K mg base 1 "_law_take" _ spTake := ⟨_, _, ok_take FT, gT, FT.kp, bT⟩
  have cC : Cal l.prog w K mg base 1 "_law_cells" _ (spCells K) := ⟨_, _, ok_cells B FC, gC, FC.kp, bC⟩
  have cN : Cal l.prog w K mg base 2 "_law_names" _ spNames := ⟨_, _, ok_names B cT FN, gN, FN.kp, bN⟩
  have cP : Cal l.prog w K mg base 2 "_law_pals" _ spPals := ⟨_, _, ok_pals B cT FP, gP, FP.kp, bP⟩
  have cA : Cal l.prog w K mg base 1 "_law_are" _ spAre := ⟨_, _, ok_are B FA, gA, FA.kp, bA⟩
  have cCo : Cal l.prog w K mg base 2 "_law_come" _ spCome := ⟨_, _, ok_come B cA FCo, gCo, FCo.kp, bCo⟩
  have cS : Cal l.prog w K mg base 3 "_law_stand_of" _ spStandOf := ⟨_, _, ok_standOf cCo FS, gS, FS.kp, bS⟩
  have cW : Cal l.prog w K mg base 2 "_law_strewn" _ spStrewn := ⟨_, _, ok_strewn B cT FW, gW, FW.kp, bW⟩
  have cSa : Cal l.prog w K mg base 4 "_law_same" _ (spSame5 K 4) := ⟨_, _, ok_same5 B FSa gSa bSa 4, gSa, FSa.kp, bSa⟩
  have cH : Cal l.prog w K mg base 1 "_law_thinned" _ spThinned := ⟨_, _, ok_thinned B FH, gH, FH.kp, bH⟩
  have cFi : Cal l.prog w K mg base 4 "_law_fine_stand" _ spFine := ⟨_, _, ok_fine cS cW FFi, gFi, FFi.kp, bFi⟩
  have cY : Cal l.prog w K mg base 5 "_law_any_stand" _ spAny := ⟨_, _, ok_any B cT cFi cW cH FY, gY, FY.kp, bY⟩
  have cDu : Cal l.prog w K mg base 3 "_law_due" _ spDueD := ⟨_, _, (ok_due5 B cCo FDu).imp due_imp, gDu, FDu.kp, bDu⟩
  have cDnX : CalKX l.prog w K mg base 6 "done" ["friends", "deeds", "row"] 2 "row" (spDone5 CBadDeed) := calkX_mk l10 c10 k10 gDn (ok_dn5 B TBadDeed FIBadDeed bIBadDeed cCbd cLe cRds (fun_mk l10 c10 k10)) (fun _ _ _ _ _ _ us ws h1 h2 => match us, ws, h1, h2 with | [_, _], [_], _, _ => rfl)
  have cDnN : CalNX l.prog w K mg base 6 "done" ["friends", "deeds", "row"] ["row", "deeds", "friends"] [2, 1, 0] (spDone5 CBadDeed) := calnX_mk l10 k10 gDn (ok_dn5 B TBadDeed FIBadDeed bIBadDeed cCbd cLe cRds (fun_mk l10 c10 k10)) ["row", "deeds", "friends"] [2, 1, 0] (fun _ _ _ _ _ _ ws h => match ws, h with | [_, _, _], _ => rfl)
  have cDnK := calk_mk (w := w) l10 c10 k10 n10 e10 gDn (ok_dn0 (P := l.prog) B cCbd cLe cRds (fun_mk l10 c10 k10)) rfl (fun _ _ _ _ _ _ us ws h1 h2 => match us, ws, h1, h2 with | [_, _], [_], _, _ => rfl) (fun _ _ _ _ _ _ us ks h1 h2 => match us, ks, h1, h2 with | [_, _], [_], _, _ => ⟨_, _, _, _, _, _, rfl, rfl, rfl⟩)
  have cR : CalG l.prog w K mg base 9 "_law_right" _ (spRightN [(PLM, qLam)]) := ⟨_, _, ok_right B TBadDeed TAstray TBadText noBadDeed_number nBadDeed_Astray nBadDeed_BadText FAsk17 gAsk17 bAsk17 TT tc cDnX cDnN cDnK cY cDu cN cP cSa cW cT FR, gR, FR.kp, bR⟩
  exact ok_lawG B cC cX cR FLaw
end Lk
open PySem PySem.W PyProof.Rows
set_option maxRecDepth 100000 in
set_option maxHeartbeats 0 in
theorem PySem.Challenge.cw_letinrow_k05_comings_and_servings_holds : PySem.Challenge.rw_letinrow_k05_comings_and_servings.Holds := by
  w_on; o_law; k_head; (case hw => w_witness2)
  k_fill
  refine Lk.walk_lawG (l := PySem.Challenge.rw_letinrow_k05_comings_and_servings) (n := 63) (k := 10) (x := "_law_script") rfl (by decide) rfl ⟨rfl, by decide, by decide⟩ (fun w h Y => PySem.W.km_in_of Y) ?F
  case F =>
    intro w mg fa h Y KX G hmg
    refine' Lk.all_mk KX G hmg ?a1 ?l1 ?c1 ?k1 ?a2 ?l2 ?c2 ?k2 ?a3 ?l3 ?c3 ?k3 ?a4 ?l4 ?c4 ?k4 ?a5 ?l5 ?c5 ?k5 ?a6 ?l6 ?c6 ?k6 ?a7 ?l7 ?c7 ?k7 ?a8 ?l8 ?c8 ?k8 ?a9 ?l9 ?c9 ?k9 ?a10 ?l10 ?c10 ?k10 ?n10 ?e10 ?a11 ?l11 ?c11 ?k11 ?a12 ?l12 ?c12 ?k12 ?a13 ?l13 ?c13 ?k13 ?a14 ?l14 ?c14 ?k14 ?a15 ?l15 ?c15 ?k15 ?a16 ?l16 ?c16 ?k16 ?a17 ?l17 ?c17 ?k17 ?a18 ?l18 ?c18 ?k18 ?a19 ?l19 ?c19 ?k19 ?a20 ?l20 ?c20 ?k20 ?a21 ?l21 ?c21 ?k21 ?a22 ?l22 ?c22 ?k22 ?a23 ?l23 ?c23 ?k23 ?a24 ?l24 ?c24 ?k24 ?a25 ?l25 ?c25 ?k25 ?a26 ?l26 ?c26 ?k26 ?a27 ?l27 ?c27 ?k27 ?q1 ?z1 ?z2 ?z3 ?z4 ?z5 ?z6 ?z7 ?z8 ?z9 ?z10 ?z11 ?z12 ?z13 ?z14 ?z15 ?z16 ?z17 ?z18 ?z19 ?z20 ?z21 ?x0a ?x0e ?x0f ?x0g ?x0h ?x0n ?x0b ?x0c ?x0d ?x0i ?x0j ?x0k ?x0l ?x0m ?x0o ?x0p ?x0q ?x0r ?x0s ?x0t ?x0u ?x0v ?x0w ?x0y ?x0z_number ?x1a ?x1e ?x1f ?x1g ?x1h ?x1n ?x2a ?x2e ?x2f ?x2g ?x2h ?x2n ?y0_1 ?y0_2 ?tc ?tb ?tg ?td ?te ?tf
    (case a1 => k_is); (case l1 => k_is); (case c1 => k_is); (case k1 => k_is)
    (case a2 => k_is); (case l2 => k_is); (case c2 => k_is); (case k2 => k_is)
    (case a3 => k_is); (case l3 => k_is); (case c3 => k_is); (case k3 => k_is)
    (case a4 => k_is); (case l4 => k_is); (case c4 => k_is); (case k4 => k_is)
    (case a5 => k_is); (case l5 => k_is); (case c5 => k_is); (case k5 => k_is)
    (case a6 => k_is); (case l6 => k_is); (case c6 => k_is); (case k6 => k_is)
    (case a7 => k_is); (case l7 => k_is); (case c7 => k_is); (case k7 => k_is)
    (case a8 => k_is); (case l8 => k_is); (case c8 => k_is); (case k8 => k_is)
    (case a9 => k_is); (case l9 => k_is); (case c9 => k_is); (case k9 => k_is)
    (case a10 => k_is); (case l10 => k_is); (case c10 => k_is); (case k10 => k_is)
    (case n10 => k_is); (case e10 => k_is); (case a11 => k_is); (case l11 => k_is)
    (case c11 => k_is); (case k11 => k_is); (case a12 => k_is); (case l12 => k_is)
    (case c12 => k_is); (case k12 => k_is); (case a13 => k_is); (case l13 => k_is)
    (case c13 => k_is); (case k13 => k_is); (case a14 => k_is); (case l14 => k_is)
    (case c14 => k_is); (case k14 => k_is); (case a15 => k_is); (case l15 => k_is)
    (case c15 => k_is); (case k15 => k_is); (case a16 => k_is); (case l16 => k_is)
    (case c16 => k_is); (case k16 => k_is); (case a17 => k_is); (case l17 => k_is)
    (case c17 => k_is); (case k17 => k_is); (case a18 => k_is); (case l18 => k_is)
    (case c18 => k_is); (case k18 => k_is); (case a19 => k_is); (case l19 => k_is)
    (case c19 => k_is); (case k19 => k_is); (case a20 => k_is); (case l20 => k_is)
    (case c20 => k_is); (case k20 => k_is); (case a21 => k_is); (case l21 => k_is)
    (case c21 => k_is); (case k21 => k_is); (case a22 => k_is); (case l22 => k_is)
    (case c22 => k_is); (case k22 => k_is); (case a23 => k_is); (case l23 => k_is)
    (case c23 => k_is); (case k23 => k_is); (case a24 => k_is); (case l24 => k_is)
    (case c24 => k_is); (case k24 => k_is); (case a25 => k_is); (case l25 => k_is)
    (case c25 => k_is); (case k25 => k_is); (case a26 => k_is); (case l26 => k_is)
    (case c26 => k_is); (case k26 => k_is); (case a27 => k_is); (case l27 => k_is)
    (case c27 => k_is); (case k27 => k_is); (case q1 => k_is); (case z1 => k_is)
    (case z2 => k_is); (case z3 => k_is); (case z4 => k_is); (case z5 => k_is)
    (case z6 => k_is); (case z7 => k_is); (case z8 => k_is); (case z9 => k_is)
    (case z10 => k_is); (case z11 => k_is); (case z12 => k_is); (case z13 => k_is)
    (case z14 => k_is); (case z15 => k_is); (case z16 => k_is); (case z17 => k_is)
    (case z18 => k_is); (case z19 => k_is); (case z20 => k_is); (case z21 => k_is)
    (case x0a => first | k_is | rfl | decide +kernel); (case x0e => first | k_is | rfl | decide +kernel); (case x0f => first | k_is | rfl | decide +kernel); (case x0g => first | k_is | rfl | decide +kernel)
    (case x0h => first | k_is | rfl | decide +kernel); (case x0n => first | k_is | rfl | decide +kernel); (case x0b => first | k_is | rfl | decide +kernel); (case x0c => first | k_is | rfl | decide +kernel)
    (case x0d => first | k_is | rfl | decide +kernel); (case x0i => first | k_is | rfl | decide +kernel); (case x0j => first | k_is | rfl | decide +kernel); (case x0k => first | k_is | rfl | decide +kernel)
    (case x0l => first | k_is | rfl | decide +kernel); (case x0m => first | k_is | rfl | decide +kernel); (case x0o => first | k_is | rfl | decide +kernel); (case x0p => first | k_is | rfl | decide +kernel)
    (case x0q => first | k_is | rfl | decide +kernel); (case x0r => first | k_is | rfl | decide +kernel); (case x0s => first | k_is | rfl | decide +kernel); (case x0t => first | k_is | rfl | decide +kernel)
    (case x0u => first | k_is | rfl | decide +kernel); (case x0v => first | k_is | rfl | decide +kernel); (case x0w => first | k_is | rfl | decide +kernel); (case x0y => first | k_is | rfl | decide +kernel)
    (case x0z_number => first | k_is | rfl | decide +kernel); (case x1a => first | k_is | rfl | decide +kernel); (case x1e => first | k_is | rfl | decide +kernel); (case x1f => first | k_is | rfl | decide +kernel)
    (case x1g => first | k_is | rfl | decide +kernel); (case x1h => first | k_is | rfl | decide +kernel); (case x1n => first | k_is | rfl | decide +kernel); (case x2a => first | k_is | rfl | decide +kernel)
    (case x2e => first | k_is | rfl | decide +kernel); (case x2f => first | k_is | rfl | decide +kernel); (case x2g => first | k_is | rfl | decide +kernel); (case x2h => first | k_is | rfl | decide +kernel)
    (case x2n => first | k_is | rfl | decide +kernel); (case y0_1 => first | k_is | rfl | decide +kernel); (case y0_2 => first | k_is | rfl | decide +kernel); (case tc => first | k_is | rfl | decide +kernel)
    (case tb => k_is); (case tg => first | k_is | rfl | decide +kernel); (case td => first | k_is | rfl | decide +kernel); (case te => first | k_is | rfl | decide +kernel)
    (case tf => exact PySem.W.km_tabs_of Y _ (by decide))
