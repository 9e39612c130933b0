import PyProof.Rows.All
import Wide.All
import OpenK.AllK
import Wide.FinOn
import HandS.ForMost
import HandS.Walk
import HandS.Deep
import HandS.Zip
import HandS.TupAny
import HandS.IsInst
import HandS.Strs
import HandS.More
import HandS.Flow
import HandS.Style
import HandS.NoneIn
import KE.SortData
import KE.GoesEnum
import KE.GoesMore
import HandS.Defaults
import HandS.WordsExc
import HandS.DictComp
import HandS.Iter
import HandS.MakeKwOnly
import HandS.TupMul
import PySem.Challenge.RW_letinrow_k08_whole_who_is_left_whichever
set_option Elab.async false
set_option linter.all false
set_option maxRecDepth 100000
set_option maxHeartbeats 2000000
namespace Lk
open PySem PySem.Spec PyProof.Rows L2

/-! ### either of two rules -/
section
variable {X : Cx}
theorem pi_or2 {tg e : Expr} {t u : TI} (a : PI X tg e t) (b : PI X tg e u) : PI X tg e (fun σ H R => t σ H R ∨ u σ H R) :=
  ⟨fun pins s σ H R I h => h.elim (a.run pins s σ H R I) (b.run pins s σ H R I)⟩
end

/-! ### what is known in between -/
section
variable {X : Cx}
def tMid (t : TE) : TE := fun σ H Q => ∃ M : V → Hp → Prop, t σ H M ∧ ∀ v H', M v H' → Q v H'
theorem pe_mid {e : Expr} {t : TE} (h : PE X e t) : PE X e (tMid t) :=
  ⟨fun pins s σ H Q I ⟨M, h1, h2⟩ => thn (h.run pins s σ H M I h1) fun u s1 ⟨v, H1, I1, r, q⟩ => ⟨v, H1, I1, r, h2 v H1 q⟩⟩
end

/-! ### in, over a tuple of data -/
section
variable {X : Cx}
def rInT (K : PySem.W.Frag) : R2 := fun x y H Q => ∃ d ds, Dp K H x d ∧ Dp K H y (.tuple ds) ∧ SeqAt.shaped d = true ∧ SeqAt.shaped (.tuple ds) = true ∧ Q (.bl (ds.any fun z => PyData.eqv z d)) H
theorem op_inT (hu : X.A.units + 65 < cLine) : OpR X (compareOp .In) (rInT X.K) := by
  intro pins s σ H x y v u Q I rx ry h
  obtain ⟨d, ds, hd, he, sd, se, q⟩ := h
  obtain ⟨as, r1⟩ := Dp.reads I d x v hd rx
  obtain ⟨bs, r2⟩ := Dp.reads I (.tuple ds) y u he ry
  exact SeqAt.in_tuple_reads r2 r1 (SeqAt.canLay_of_shaped se) (SeqAt.canLay_of_shaped sd) (room_in_shaped sd hu) ⟨.bl _, H, I, rfl, q⟩
end

/-! ### room, where nobody writes a text of a thing around us -/
structure Room (k : Nat) (A : Around) : Prop where
  rm : L2.Room k A
  gd : A.guards = some []
theorem Room.mono {j k : Nat} {A : Around} (z : Room k A) (h : j ≤ k) : Room j A := ⟨z.rm.mono h, z.gd⟩
theorem Room.units {k : Nat} {A : Around} (z : Room k A) : A.units + 64 < cLine := z.rm.units
theorem Room.un {k : Nat} {A : Around} (z : Room k A) : A.units + 16 * k + 200 < cLine := z.rm.un
theorem Room.hd {k : Nat} {A : Around} (z : Room k A) : A.handled = none := z.rm.hd
theorem hu_of {A : Around} {k : Nat} (z : Room k A) : A.units + 1 < cLine := L2.hu_of z.rm
/-- a def's promise, asked for only there -/
structure FnOk (P : Program) (w : World) (K : PySem.W.Frag) (mg : Str → Option Value) (base : Heap) (CX : CXT) (k : Nat) (f : Addr) (fd : FuncData) (ps : List Str) (sp : Sp) : Prop where
  len : ∀ vs H Q E, sp vs H Q E → vs.length = ps.length
  run : ∀ (A : Around) (out : List Env) (s : Shared) (H : Hp) (ar : Args) (us : List Value) (vs : List V) (Q : VK) (E : XK), Room k A → Env0 P w K mg base A out s H → BindsTo s fd ar (ps.zip us) → Vals vs us → sp vs H Q E →
    codeAny (model P w) A (.call (.ref f) ar) (CR CX out P w H s Q E) s
section
variable {P : Program} {w : World} {K : PySem.W.Frag} {mg : Str → Option Value} {base : Heap} {CX : CXT} {k : Nat} {f : Addr} {fd : FuncData} {N ps : List Str} {sp : Sp}
theorem FnOk.mono {j : Nat} (F : FnOk P w K mg base CX j f fd ps sp) (h : j ≤ k) : FnOk P w K mg base CX k f fd ps sp := ⟨F.len, fun A out s H ar us vs Q E z => F.run A out s H ar us vs Q E (z.mono h)⟩
/-- its body, by rules -/
theorem fok_of {name qual : Str} {params : Arguments} {body : List Stmt} {scope : Scope} {dV kV doc pm cdv ct oc : Value} {an od : Option Addr} {osl : Array (Option Value)}
    (lk : K.lookup f = some ⟨oc, od, .func (PySem.W.fnOf name qual params body scope dV kV doc pm an cdv ct), osl⟩) (hc : PySem.W.codeIn K cdv qual = true) (S : FnScope N ps scope) (hn : ∀ vs H Q E, sp vs H Q E → vs.length = ps.length)
    (hb : ∀ (A : Around) (out : List Env) (s : Shared) (H : Hp) (vs : List V) (Q : VK) (E : XK), Room k (A.deeper (envOfC qual scope s.heap.objs.size f cdv)) → sp vs H Q E →
      ∃ t, PSs (cxOf CX P w K mg base N qual scope f cdv A out s H E) body t ∧ t { nx := fun _ G => Q .non G, rt := Q } (start N vs) H) :
    FnOk P w K mg base CX (k + 1) f (PySem.W.fnOf name qual params body scope dV kV doc pm an cdv ct) ps sp := by
  refine ⟨hn, fun A out s H ar us vs Q E z e0 bd rv hs => ?_⟩
  have kin : K.In s.heap := e0.mod.kin.keeps fun c u q => (e0.bs c u q).1
  have nol : s.heap.NoLimit := e0.mod.nolimit.keeps fun c u q => (e0.bs c u q).1
  have kinds : ∀ y ∈ ps.zip us, scope.names.lookup y.1 = some .local ∨ (scope.names.lookup y.1 = some .cell ∧ ((cellsFrom (s.heap.objs.size + 1) scope.names []).lookup y.1).isSome = true) := by
    rintro ⟨n, v⟩ hy
    rcases S.par n (List.of_mem_zip hy).1 with c | c
    · exact .inl c
    · exact .inr ⟨c, PySem.W.cellsFrom_some _ _ _ (.inl c)⟩
  refine codeAny_call_function z.rm.depth (kin _ _ lk) rfl S.co S.gen rfl (PySem.W.codeRec_of kin hc) (bd _ _ _ _ ?_)
  refine wpAny_newFunctionEnv_cells S.kind kinds ?_
  rintro env rfl s1 ic
  refine ⟨nol.keeps ic.toInCall.keep, codeAny_func ?_⟩
  obtain ⟨t, pt, qt⟩ := hb A out s H vs Q E ⟨z.rm.deeper _, z.gd⟩ hs
  have I : Inv (cxOf CX P w K mg base N qual scope f cdv A out s H E) [] (start N vs) H s1 := inv_start S z.rm.hd e0 (hn _ _ _ _ hs) rv ic
  refine wpAny_mono (pt.run [] s1 (start N vs) H _ I qt) (fun fl s2 ends => ?_) fun _ _ h => h
  cases fl with
  | brk => exact (let ⟨_, _, _, no⟩ := ends; no : False).elim
  | cont => exact (let ⟨_, _, _, no⟩ := ends; no : False).elim
  | next =>
    obtain ⟨σ1, H1, J, w1⟩ := ends
    exact ⟨.non, H1, J.os, J.bare, J.base, J.hok, rfl, w1⟩
  | ret u =>
    obtain ⟨v, σ1, H1, J, ru, w1⟩ := ends
    exact ⟨v, H1, J.os, J.bare, J.base, J.hok, ru, w1⟩
theorem fok {x qual : Str} {st : Stmt} (F : Fun K x qual st f fd) (S : FnScope N ps (defScope st)) (hn : ∀ vs H Q E, sp vs H Q E → vs.length = ps.length)
    (hb : ∀ (cdv : Value) (A : Around) (out : List Env) (s : Shared) (H : Hp) (vs : List V) (Q : VK) (E : XK), Room k (A.deeper (envOfC qual (defScope st) s.heap.objs.size f cdv)) → sp vs H Q E →
      ∃ t, PSs (cxOf CX0 P w K mg base N qual (defScope st) f cdv A out s H E).nox (defBody st) t ∧ t { nx := fun _ G => Q .non G, rt := Q } (start N vs) H) : FnOk P w K mg base CX0 (k + 1) f fd ps sp := by
  obtain ⟨oc, od, kV, doc, pm, an, cd, ct, sl, rfl, lk, hc⟩ := F.ex
  exact fok_of lk hc S hn fun A out s H vs Q E z hs => let ⟨t, a, b⟩ := hb cd A out s H vs Q E z hs; ⟨t, a.nox, b⟩
end
section
variable {X : Cx} {CX : CXT} {k : Nat} {f : Addr} {fd : FuncData} {ps ks : List Str} {sp : Sp} {E : XK} {g : List Value → List Value → List Value} {gV : List V → List V → List V}
theorem fn_ran {pins : List (Addr × Obj)} {σ : L2.St} {H : Hp} {s : Shared} {Q : VK} {ar : Args} {us : List Value} {vs : List V} (F : FnOk X.prog X.w X.K X.mg X.base CX k f fd ps sp) (z : Room k X.A) (hx : Passes CX X E)
    (I : Inv X pins σ H s) (bd : BindsTo s fd ar (ps.zip us)) (rv : Vals vs us) (h : sp vs H Q E) : wpAny (model X.prog X.w) X.A (call (.ref f) ar.pos ar.kw) (EP X pins σ Q) X.xe s := by
  refine wpAny_call (codeAny_mono (F.run X.A X.stack s H ar us vs Q E z I.env0 bd rv h) ?_)
  rintro (e | fl) s2 ends
  · exact hx pins σ H s e s2 I ends
  cases fl with
  | ret u => exact I.after ends
  | next => exact (ends : False).elim
  | brk => exact (ends : False).elim
  | cont => exact (ends : False).elim
end
/-! ### calls -/
section
variable {X : Cx} {CX : CXT} {k n : Nat} {f : Addr} {fd : FuncData} {ps ks : List Str} {sp : Sp} {E : XK} {x : Str} {p pos : Pos} {kws : List Keyword} {tk t : TA} {g : List Value → List Value → List Value} {gV : List V → List V → List V}
  {e : Expr} {es : List Expr} {dvs : List V} {ds : List Value}
theorem pe_call (F : FnOk X.prog X.w X.K X.mg X.base CX k f fd ps sp) (z : Room k X.A) (gl : Gl X x) (hm : X.mg x = some (.ref f)) (kp : PySem.W.keepIn X.K (.ref f) = true) (hb : Binds X.K fd ps ds) (hd : Vals dvs ds) (hx : Passes CX X E)
    (ha : PA X (e :: es) t) (hdb : (x == ("__debug__" : Str)) = false := by decide)
    (he : starEach (e :: es) X.env = (false, eval e X.env) :: starEach es X.env := by rfl) (hpl : (backTo pos (starEach es X.env)).any (·.1) = false := by rfl) :
    PE X (.Call (.Name x p) (e :: es) [] pos) (tCall sp dvs E t) := by
  constructor
  intro pins s σ H Q I h
  refine wpAny_Call_Name_kw (ld_glob I gl hm (PySem.W.callWith_K (h₀ := X.base) I.ok.mod.kin kp (thn (ha.run pos pins s σ H _ I h) ?_) he hpl) hdb)
  rintro us s1 ⟨vs, H1, I1, rv, q⟩
  have r2 : Vals (vs ++ dvs) (us ++ ds) := rv.append hd
  exact ⟨I1.kIn, fn_ran (ar := ⟨us, []⟩) F z hx I1 (hb s1 us I1.kIn (r2.length.symm.trans (F.len _ _ _ _ q))) r2 q⟩
theorem pe_callK0 (F : FnOk X.prog X.w X.K X.mg X.base CX k f fd ps sp) (z : Room k X.A) (gl : Gl X x) (hm : X.mg x = some (.ref f)) (kp : PySem.W.keepIn X.K (.ref f) = true) (hb : KBinds X.K fd ps ks g gV) (hx : Passes CX X E)
    (hkw : PK X kws tk) (hall : (backToKw pos (keywordEach kws X.env)).all (·.1.isSome) = true := by rfl) (hks : (backToKw pos (keywordEach kws X.env)).filterMap (·.1) = ks := by rfl)
    (hdb : (x == ("__debug__" : Str)) = false := by decide)
    (hpl : ((backTo pos (starEach [] X.env)).any (·.1) || (backToKw pos (keywordEach kws X.env)).any (·.1.isNone)) = false := by rfl) :
    PE X (.Call (.Name x p) [] kws pos) (tCallK sp gV E tNil tk) := by
  refine ⟨fun pins s σ H Q I h => ?_⟩
  refine wpAny_Call_Name_kw (ld_glob I gl hm (PySem.W.callWith_KW0 (h₀ := X.base) I.ok.mod.kin kp hall ?_ hpl) hdb)
  refine thn (hkw.run pos pins s σ H _ I h) fun ws s2 ⟨zs, H2, I2, rz, q2⟩ => ⟨I2.kIn, ?_⟩
  rw [hks]
  have r2 := hb.rel (vs := []) (us := []) .nil rz
  exact fn_ran (ar := ⟨[], ks.zip ws⟩) F z hx I2 (hb.to s2 [] ws I2.kIn (r2.length.symm.trans (F.len _ _ _ _ q2))) r2 q2
theorem pe_callN (F : FnOk X.prog X.w X.K X.mg X.base CX k f fd ps sp) (z : Room k X.A) (gl : Gl X x) (hm : X.mg x = some (.ref f)) (kp : PySem.W.keepIn X.K (.ref f) = true) (hb : KBn X.K fd ps n ks g gV) (hx : Passes CX X E)
    (ha : PA X (e :: es) t) (hkw : PK X kws tk) (hall : (backToKw pos (keywordEach kws X.env)).all (·.1.isSome) = true := by rfl)
    (hks : (backToKw pos (keywordEach kws X.env)).filterMap (·.1) = ks := by rfl) (hdb : (x == ("__debug__" : Str)) = false := by decide)
    (he : starEach (e :: es) X.env = (false, eval e X.env) :: starEach es X.env := by rfl)
    (hpl : ((backTo pos (starEach (e :: es) X.env)).any (·.1) || (backToKw pos (keywordEach kws X.env)).any (·.1.isNone)) = false := by rfl) :
    PE X (.Call (.Name x p) (e :: es) kws pos) (tCallN n ks.length sp gV E t tk) := by
  refine ⟨fun pins s σ H Q I h => ?_⟩
  refine wpAny_Call_Name_kw (ld_glob I gl hm (PySem.W.callWith_KW (h₀ := X.base) I.ok.mod.kin kp hall (thn (ha.run pos pins s σ H _ I h) ?_) hpl he) hdb)
  rintro us s1 ⟨vs, H1, I1, rv, q⟩
  refine thn (hkw.run pos pins s1 σ H1 _ I1 q) fun ws s2 ⟨zs, H2, I2, rz, l1, l2, q2⟩ => ⟨I2.kIn, ?_⟩
  rw [hks]
  exact fn_ran (ar := ⟨us, ks.zip ws⟩) F z hx I2 (hb.to s2 us ws I2.kIn (rv.length.symm.trans l1) (rz.length.symm.trans l2)) (hb.rel rv rz) q2
theorem pe_callN0 (F : FnOk X.prog X.w X.K X.mg X.base CX k f fd ps sp) (z : Room k X.A) (gl : Gl X x) (hm : X.mg x = some (.ref f)) (kp : PySem.W.keepIn X.K (.ref f) = true) (hb : KBn X.K fd ps 0 ks g gV) (hx : Passes CX X E)
    (hkw : PK X kws tk) (hall : (backToKw pos (keywordEach kws X.env)).all (·.1.isSome) = true := by rfl)
    (hks : (backToKw pos (keywordEach kws X.env)).filterMap (·.1) = ks := by rfl) (hdb : (x == ("__debug__" : Str)) = false := by decide)
    (hpl : ((backTo pos (starEach [] X.env)).any (·.1) || (backToKw pos (keywordEach kws X.env)).any (·.1.isNone)) = false := by rfl) :
    PE X (.Call (.Name x p) [] kws pos) (tCallN 0 ks.length sp gV E tNil tk) := by
  refine ⟨fun pins s σ H Q I h => ?_⟩
  refine wpAny_Call_Name_kw (ld_glob I gl hm (PySem.W.callWith_KW0 (h₀ := X.base) I.ok.mod.kin kp hall ?_ hpl) hdb)
  refine thn (hkw.run pos pins s σ H _ I h) fun ws s2 ⟨zs, H2, I2, rz, l1, l2, q2⟩ => ⟨I2.kIn, ?_⟩
  rw [hks]
  exact fn_ran (ar := ⟨[], ks.zip ws⟩) F z hx I2 (hb.to s2 [] ws I2.kIn rfl (rz.length.symm.trans l2)) (hb.rel (vs := []) (us := []) .nil rz) q2
end

/-! ### the head of a law -/
theorem law_ran {P : Program} {w : World} {K : PySem.W.Frag} {mg mb : Str → Option Value} {k : Nat} {fa a : Addr} {fd : FuncData} {x : Str} {sp : Sp} {s : Shared} {vs : List Value} {ns : List Int}
    (kin : K.In s.heap) (ng : s.heap.Ns mainGlobals mg) (nb : s.heap.Ns builtinsNs mb) (bb : ∀ y : Str, y ≠ "__name__" → mb y = bootBuiltins y) (nol : s.heap.NoLimit) (ge : s.gens = #[])
    (ha : s.heap.get? a = some { cls := .type "list", data := .seq vs.toArray }) (hi : IntsAre vs ns) (hl : ns.length ≤ sizeLine) (z : Room k callerA)
    (F : ∀ base : Heap, K.In base → base.Ns mainGlobals mg → FnOk P w K mg base CX0 k fa fd [x] sp) (bd : ∀ (c : Shared) (u : Value), BindsTo c fd ⟨[u], []⟩ [(x, u)])
    (hsp : ∀ H : Hp, SqL K H a (ns.map V.int) → sp [.ref a] H (fun v _ => v = .bl true) fun _ _ _ => False) :
    codeAny (model P w) callerA (.call (.ref fa) ⟨[.ref a], []⟩) (fun r c => r = .ok (.ret (.bool true)) ∧ OldK s.heap c.heap ∧ c.os = s.os ∧ AllBare c.gens) s := by
  have rv : Vals (ns.map V.int) vs := vals_ints hi
  have main : ∀ H : Hp, Only H → (∀ b, H b ≠ none → b = a ∧ K.lookup a = none) → SqL K H a (ns.map V.int) → HOk P w H s.heap →
      codeAny (model P w) callerA (.call (.ref fa) ⟨[.ref a], []⟩) (fun r c => r = .ok (.ret (.bool true)) ∧ OldK s.heap c.heap ∧ c.os = s.os ∧ AllBare c.gens) s := by
    intro H on at_ sq ok
    have off : ∀ {b : Addr}, b ≠ a → H b = none := fun {b} ne => Classical.byContradiction fun c => ne (at_ b c).1
    have hid : ∀ {b : Addr} {m : Str → Option Value}, s.heap.Ns b m → (hidT s.heap H).Ns b m := by
      rintro b m ⟨o, es, ep, g, d, r⟩
      refine ⟨o, es, ep, hidT_get g (off ?_), d, r⟩
      rintro rfl
      have q := ha.symm.trans g
      cases q
      cases d
    have kb : K.In (hidT s.heap H) := fun b o g => by
      refine hidT_get (kin b o g) (Classical.byContradiction fun c => ?_)
      obtain ⟨eb, no⟩ := at_ b c
      rw [eb, no] at g
      cases g
    have md : Mod K mg (hidT s.heap H) := by
      obtain ⟨mc, n1, n2⟩ := nol
      exact ⟨kb, hid ng, ⟨mb, hid nb, bb⟩, ⟨mc, hid n1, n2⟩⟩
    have e0 : Env0 P w K mg (hidT s.heap H) callerA [] s H :=
      { frames := rfl, mod := md, bs := fun b o g => of_hidT g, bsz := Nat.le_of_eq (hidT_size _ _), funs := trivial, frf := (fun b c => nomatch (show b ∈ ([] : List Addr) from c)), hok := ok, bare := .of_eq ge }
    refine codeAny_mono ((F _ kb (hid ng)).run callerA [] s H ⟨[.ref a], []⟩ [.ref a] [.ref a] _ _ z e0 (bd s (.ref a)) (.cons rfl .nil) (hsp H sq)) ?_
    rintro (er | fl) c ends
    · exact (ends : False).elim
    cases fl with
    | next => exact (ends : False).elim
    | brk => exact (ends : False).elim
    | cont => exact (ends : False).elim
    | ret u =>
      obtain ⟨v, H1, os, bare, un, ok1, ru, q⟩ := ends
      have q1 : v = .bl true := q
      subst q1
      obtain rfl : u = Value.bool true := ru
      refine ⟨rfl, OldK.of_keep ?_, os, bare⟩
      intro b o g
      rcases on b with h0 | ⟨ob, xs, h1⟩
      · exact un.keep b o g h0 (fun c => nomatch (show b ∈ ([] : List Addr) from c)) (fun c => nomatch c)
      · have g2 := (ok1 b _ (un.frzs b ob _ h1)).1
        have g1 := (ok b _ h1).1
        rw [g] at g1
        cases g1
        exact g2
  by_cases no : K.lookup a = none
  · refine main (fun b => if b = a then some (.frz { cls := .type "list", data := .seq vs.toArray } (.lst (ns.map V.int))) else none) ?_ ?_ (.inl (.inr ⟨{ cls := .type "list", data := .seq vs.toArray }, if_pos rfl⟩)) ?_
    · intro b
      by_cases c : b = a
      · exact .inr ⟨_, _, if_pos c⟩
      · exact .inl (if_neg c)
    · intro b q
      by_cases c : b = a
      · exact ⟨c, no⟩
      · exact absurd (if_neg c) q
    · intro b u q
      by_cases c : b = a
      · have q1 := (if_pos c).symm.trans q
        cases q1
        subst c
        exact ⟨ha, by rw [List.length_map]; exact hl, vs, _, rv, ha⟩
      · have q1 := (if_neg c).symm.trans q
        cases q1
  · obtain ⟨o, ho⟩ := Option.ne_none_iff_exists'.mp no
    have g := kin a o ho
    rw [ha] at g
    cases g
    refine main (fun _ => none) (fun _ => .inl rfl) (fun b q => absurd rfl q) (.inr ⟨_, vs.toArray, _, ho, rfl, rfl, rfl, ?_, by simpa using rv⟩) (fun b u q => ?_)
    · rw [List.size_toArray, hi.length]
      exact hl
    · have q' : (none : Option HO) = some u := q
      cases q'
theorem walk_law {l : PySem.W.OpenLaw} {n k : Nat} {q : Program} {loose : List Str} {XP : (Str → Option Value) → Heap → Prop} {YP : World → Heap → Prop} {d : DefRec} {K : Params → PySem.W.Frag} {sp : World → Sp} {x : Str}
    (hn : l.most = some n) (hn2 : n ≤ sizeLine) (hdf : d.params.defaults = []) (z : L2.Room k callerA)
    (hY : ∀ (w : World) (h : Heap), YP w h → (K w.params).In h)
    (F : ∀ (w : World) (mg : Str → Option Value) (fa : Addr) (h : Heap), (K w.params).In h → h.Ns mainGlobals mg → mg d.name = some (.ref fa) →
      ∃ fd : FuncData, (∀ (s : Shared) (u : Value), BindsTo s fd ⟨[u], []⟩ [(x, u)]) ∧ ∀ base : Heap, (K w.params).In base → base.Ns mainGlobals mg → FnOk l.prog w (K w.params) mg base CX0 k fa fd [x] (sp w))
    (hsp : ∀ (w : World) (H : Hp) (a : Addr) (ns : List Int), ns.length ≤ n → SqL (K w.params) H a (ns.map V.int) → sp w [.ref a] H (fun v _ => v = .bl true) fun _ _ _ => False) :
    PySem.W.WalkO q loose XP YP l.row.toRowW d [] (fun f vs => PySem.call f vs) := by
  refine Att.attach_call hn hdf ?_
  intro w s0 s1 mg mb fa o pm cd doc a vs ns G Y _ _ _ hmg ho hi hl hg
  have kin := hY w _ Y
  obtain ⟨fd, bd, ok⟩ := F w mg fa _ kin G.T.g hmg
  exact law_ran kin G.T.g G.T.b G.T.builtins G.T.nolimit hg ho hi (Nat.le_trans hl hn2) ⟨z, rfl⟩ ok bd fun H sq => hsp w H a ns hl sq

/-! ### repr -/
section
variable {X : Cx}
end
end Lk
set_option maxRecDepth 100000
set_option maxHeartbeats 4000000
namespace Lk
open PySem PySem.Spec PyProof.Rows L2

/-! ### enumerate(tuple) -/
theorem meets_enum1 {v : Value} {o : Obj} {H : Heap → Prop} (B : Begins v o H) :
    Meets (Builtin.«enumerate.__new__» ⟨[.type "enumerate", v], []⟩) (fun _ R s => H s.heap ∧
      R (.ok (.ret (.ref (s.heap.push o).objs.size))) { s with heap := (s.heap.push o).push { cls := .type "enumerate", data := .fields #[.none, .bool false, .ref s.heap.objs.size, rawInt 0, .none, .none] } }) :=
  .of_wp fun prog w A R s h => by
    obtain ⟨hp, g, d, tk, os⟩ := s; obtain ⟨h1, h⟩ := h
    have hsub := sub_enumerate
    have q1 : ∀ {A' : Around} {E : Value → Shared → Prop} {Q : Value → Shared → Prop}, Q (.ref hp.objs.size) ⟨hp.push o, g, d, tk, os⟩ → wpAny (model prog w) A' (pyIter v) Q E ⟨hp, g, d, tk, os⟩ :=
      fun q => B.iter prog w _ _ ⟨hp, g, d, tk, os⟩ _ h1 q
    wp_walk using q1
    refine wpAny_stack_any fun st => wpAny_pure ?_
    split
    · rename_i c _ _ _ _ _
      cases (c == Value.type "enumerate")
      · wp_walk using q1
        exact ⟨_, rfl, h⟩
      · wp_walk using q1
        exact ⟨_, rfl, h⟩
    · wp_walk using q1
      exact ⟨_, rfl, h⟩
section
variable {prog : Program} {w : World} {A : Around} {E : Value → Shared → Prop} {s : Shared}
theorem enum1_begins {v : Value} {o : Obj} {H : Heap → Prop} {Q : Value → Shared → Prop} (B : Begins v o H) (h1 : H s.heap)
    (h : ∀ h', IsEnum h' (s.heap.objs.size + 1) s.heap.objs.size 0 .none → h'.get? s.heap.objs.size = some o → h'.objs.size = s.heap.objs.size + 2 →
      (∀ b o, s.heap.get? b = some o → h'.get? b = some o) → Q (.ref (s.heap.objs.size + 1)) { s with heap := h' }) :
    wpAny (model prog w) A (call (.type "enumerate") [v]) Q E s := by
  refine callType_new F.called_enumerate (by decide) (F.typeCall_enumerate_1 _) (F.newCall_enumerate_1 _) (fun obj => F.args_object_init_2 obj _) F.entry_enumerate_new
    (meets_enum1 B) ⟨h1, ?_⟩
  have hz : (s.heap.push o).objs.size = s.heap.objs.size + 1 := Heap.size_push ..
  show _ ∧ _
  rw [hz]
  have he : IsEnum ((s.heap.push o).push { cls := .type "enumerate", data := .fields #[.none, .bool false, .ref s.heap.objs.size, rawInt 0, .none, .none] }) (s.heap.objs.size + 1) s.heap.objs.size 0 .none := by
    have := Heap.get?_push_size (s.heap.push o) (o := { cls := .type "enumerate", data := .fields #[.none, .bool false, .ref s.heap.objs.size, rawInt 0, .none, .none] }) rfl
    rw [hz] at this; exact this
  refine ⟨⟨_, he, rfl⟩, h _ he (Heap.get?_push_of_some _ (Heap.get?_push_size _ B.free)) (by rw [Heap.size_push, hz]) fun b o x => Heap.get?_push_of_some _ (Heap.get?_push_of_some _ x)⟩
end
def IteT (K : PySem.W.Frag) (a : Addr) : It :=
  ⟨fun i H => ∃ (xs : List V) (x : V), SqT K H a xs ∧ xs[i]? = some x, fun i H v H' => ∃ T x, v = .ref T ∧ H T = none ∧ H' = upd H T (.tup [.int (i : Nat), x]) ∧ ∀ xs, SqT K H a xs → xs[i]? = some x, fun i H => ∃ xs : List V, SqT K H a xs ∧ xs.length = i⟩
theorem turn_enumT {P : Program} {w : World} {K : PySem.W.Frag} {elts : List Expr} {kk : Nat} {tpos : Pos} (a e it : Addr) :
    Turn P w K (.Tuple elts kk tpos) (IteT K a) [e, it] e (fun i h => (∃ old, IsEnum h e it ((i : Nat) : Int) old) ∧ h.IsTupleIter it a i ∧ e ≠ it) where
  mem := by simp
  obj := fun i h st b hb => by
    obtain ⟨⟨old, he⟩, ⟨o, ho, hc, hd⟩, _⟩ := st
    have e' : b = e ∨ b = it := by simpa using hb
    rcases e' with z | z
    · rw [z]; exact ⟨_, he, fun v q => nomatch q⟩
    · rw [z]; exact ⟨o, ho, fun v q => by rw [hd] at q; cases q⟩
  keep := fun i h h' st k => let ⟨⟨old, he⟩, hi, hne⟩ := st; ⟨⟨old, k e (by simp) _ he⟩, hi.at fun o q => k it (by simp) o q, hne⟩
  item := by
    intro X hP hw hK hc i pins s σ H E I hf st hg
    subst hP hw hK
    obtain ⟨⟨old, he⟩, hit, hne⟩ := st
    obtain ⟨xs, x, hq, hx⟩ := hg
    obtain ⟨its, rv, p, hz⟩ := I.tuple hq
    obtain ⟨u, hu, ru⟩ := rv.get hx
    have hel : e < s.heap.objs.size := Heap.lt_size he
    have hil : it < s.heap.objs.size := by obtain ⟨_, q, _⟩ := hit; exact Heap.lt_size q
    have hai : a ≠ it := by
      rintro rfl
      obtain ⟨o, ho, hcc, _⟩ := p
      obtain ⟨o', ho', hc', _⟩ := hit
      rw [ho] at ho'; cases ho'
      rw [hcc] at hc'
      exact absurd (Value.type.inj hc') (by decide)
    have hae : e ≠ a := by
      rintro rfl
      obtain ⟨o, ho, hcc, _⟩ := p
      have ho' := ho.symm.trans he
      cases ho'
      exact absurd (Value.type.inj hcc) (by decide)
    have hlt : i < its.toArray.size := by
      rw [List.size_toArray]
      exact (List.getElem?_eq_some_iff.mp hu).1
    refine wpAny_pyNext_enum_itemD (Draws.tuple (A := X.A.in1) (I.ok.hd hc) it a hai its.toArray) he ⟨hit, p⟩ hlt hne (by simp [hne, hae]) fun v h' tk hxv ho st' hT hsz hk => ?_
    have ev : v = u := by
      have q : its.toArray[i]? = some v := hxv
      rw [List.getElem?_toArray, hu] at q
      exact (Option.some.inj q).symm
    subst ev
    refine ⟨_, rfl, wpAny_letOwnedTupleGo_enum (s := { s with heap := h', toks := tk + 1 }) ho fun h'' he' sb => ?_⟩
    have hT2 : h''.get? s.heap.objs.size = some { cls := .type "tuple", data := .seq #[.int i tk, v] } := (sb.2 _ (Nat.ne_of_gt hel)).trans hT
    have new : ObjOk X.prog X.w (upd H s.heap.objs.size (.tup [.int (i : Nat), x])) h'' s.heap.objs.size (.tup [.int (i : Nat), x]) :=
      ⟨by show 2 ≤ sizeLine; decide, [.int i tk, v], .cons ⟨_, rfl⟩ (.cons ru .nil), ⟨_, hT2, rfl, _, rfl⟩⟩
    have I1 : Inv X pins σ (upd H s.heap.objs.size (.tup [.int (i : Nat), x])) { s with heap := h'', toks := tk + 1 } :=
      I.turnedNew (ch := [e, it]) (fun b ob hb q => (sb.2 b (fun z => hb (by simp [z]))).trans (hk b ob (fun z => hb (by simp [z])) (fun z => hb (by simp [z])) q)) hf (Nat.le_refl _) new
    refine ⟨.ref s.heap.objs.size, _, I1, rfl, ⟨_, x, rfl, I.hok.fresh (Nat.le_refl _), rfl, fun ys hy => by rw [I.tuple_inj hy hq]; exact hx⟩, ⟨⟨v, ?_⟩, st'.1.at fun o q => (sb.2 it (Ne.symm hne)).trans q, hne⟩, fun b hb => ?_⟩
    · have e1 : ((i + 1 : Nat) : Int) = (i : Int) + 1 := by omega
      rw [e1]; exact he'
    · have hb' : b < s.heap.objs.size := by
        have e' : b = e ∨ b = it := by simpa using hb
        rcases e' with z | z
        · rw [z]; exact hel
        · rw [z]; exact hil
      rw [upd_ne (Nat.ne_of_lt hb')]
      exact (hf b hb).1
  done := by
    intro X hP hw hK hc i pins s σ H E I hf st hg
    subst hP hw hK
    obtain ⟨⟨old, he⟩, hit, hne⟩ := st
    obtain ⟨xs, hq, hx⟩ := hg
    obtain ⟨its, rv, p, hz⟩ := I.tuple hq
    obtain ⟨f0, f1, f2, f3, f4, f5⟩ := hf it (by simp)
    have hl := rv.length
    have hai : a ≠ it := by
      rintro rfl
      obtain ⟨o, ho, hcc, _⟩ := p
      obtain ⟨o', ho', hc', _⟩ := hit
      rw [ho] at ho'; cases ho'
      rw [hcc] at hc'
      exact absurd (Value.type.inj hc') (by decide)
    have en : i = its.toArray.size := by
      rw [List.size_toArray]
      omega
    subst en
    exact wpAny_pyNext_enum_endD (Draws.tuple (A := X.A.in1) (I.ok.hd hc) it a hai its.toArray) he ⟨hit, p⟩ fun h' eb => ⟨rfl, I.turned (t' := s.toks) (fun b o hb q => eb b o hb q) f0 f1 f3 f4 f5⟩
  self := fun A i s Q E st h => let ⟨⟨_, he⟩, _⟩ := st; wpAny_pyIter_enum he h
def iEnumT (K : PySem.W.Frag) (ta : TA) : TI := fun σ H R => ta σ H fun vs H1 => ∃ a xs, vs = [.ref a] ∧ SqT K H1 a xs ∧ R (IteT K a) H1
theorem pi_enumT {X : Cx} {e : Expr} {ta : TA} {p pos tpos : Pos} {elts : List Expr} {kk : Nat} (hg : Gl X "enumerate") (hm : X.mg "enumerate" = none) (ha : PA X [e] ta) (hs : starEach [e] X.env = [(false, eval e X.env)] := by rfl) :
    PI X (.Tuple elts kk tpos) (.Call (.Name "enumerate" p) [e] [] pos) (iEnumT X.K ta) := by
  refine ⟨fun pins s σ H R I h => ?_⟩
  refine Call_ (ld_blt I hg hm boot_enumerate (PyProof.Rows.callWith_type1 (thn (ha.run pos pins s σ H _ I h) fun us s1 ⟨vs, H1, I1, r1, q1⟩ => ?_) hs rfl))
  obtain ⟨a, xs, ex, hq, q⟩ := q1
  subst ex
  cases r1 with
  | cons r rr =>
    cases rr
    cases r
    obtain ⟨its, rv, p', hz⟩ := I1.tuple hq
    refine enum1_begins (begins_tuple a its.toArray) p' fun h' he hit hsz hk => wpAny_pyIter_enum he ?_
    have I2 : Inv X pins σ H1 { s1 with heap := h' } := I1.kept (t' := s1.toks) hk
    refine ⟨s1.heap.objs.size + 1, [s1.heap.objs.size + 1, s1.heap.objs.size], _, _, H1, rfl, I2, turn_enumT a (s1.heap.objs.size + 1) s1.heap.objs.size, ⟨⟨.none, he⟩, ⟨_, hit, rfl, rfl⟩, Nat.succ_ne_self _⟩, fun b hb => ?_, q⟩
    have e' : b = s1.heap.objs.size + 1 ∨ b = s1.heap.objs.size := by simpa using hb
    have hle : s1.heap.objs.size ≤ b := by
      rcases e' with z | z
      · rw [z]; exact Nat.le_add_right _ _
      · rw [z]; exact Nat.le_refl _
    exact I1.fpOk hle (I1.hok.fresh hle)
theorem walk_enumT {K : PySem.W.Frag} {a : Addr} {xs : List V} : Walk (IteT K a) xs.length (fun H => SqT K H a xs) (YPair (fun i => some (.int (i : Nat))) (fun i => xs[i]?)) := by
  refine ⟨fun i _ hi q => ⟨xs, xs[i], q, by simp [hi]⟩, fun _ q => ⟨xs, q, rfl⟩, fun i H v H' _ q y => ?_⟩
  obtain ⟨T, x, h1, h2, h3, h4⟩ := y
  exact ⟨T, .int (i : Nat), x, h1, h2, h3, rfl, h4 xs q⟩

/-! ### min, max of two texts -/
def lmin (x y : Str) : Str := if y.cps.toList < x.cps.toList then y else x
def lmax (x y : Str) : Str := if x.cps.toList < y.cps.toList then y else x
theorem cmp_lt_strs {prog : Program} {w : World} {A : Around} {P : Nat → Value → Prop} (val : Nat → Str) (hval : ∀ i v, P i v → ∃ t, v = .str (val i) t) :
    CmpOf prog w A .Lt P (fun i j => decide ((val i).cps.toList < (val j).cps.toList)) := fun i j vi vj s Q E hi hj h => by
  obtain ⟨t, rfl⟩ := hval i vi hi
  obtain ⟨u, rfl⟩ := hval j vj hj
  exact richCompare_gives (op := .Lt) (typeIs_str s _ t) (typeIs_str s _ u) F.slot_str_lt F.entry_str_lt (F.args_str_lt_2 _ _) (gives_str_lt _ _ t u) (fun x => nomatch x) h
theorem cmp_gt_strs {prog : Program} {w : World} {A : Around} {P : Nat → Value → Prop} (val : Nat → Str) (hval : ∀ i v, P i v → ∃ t, v = .str (val i) t) :
    CmpOf prog w A .Gt P (fun i j => decide ((val j).cps.toList < (val i).cps.toList)) := fun i j vi vj s Q E hi hj h => by
  obtain ⟨t, rfl⟩ := hval i vi hi
  obtain ⟨u, rfl⟩ := hval j vj hj
  exact richCompare_gives (op := .Gt) (typeIs_str s _ t) (typeIs_str s _ u) F.slot_str_gt F.entry_str_gt (F.args_str_gt_2 _ _) (gives_str_gt _ _ t u) (fun x => nomatch x) h
def txtAt (x y : Str) (i : Nat) : Str := if i = 0 then x else y
theorem two_at {x y : Str} {t u : Tok} {i : Nat} {v : Value} (h : (#[.str x t, .str y u] : Array Value)[i]? = some v) : ∃ k, v = .str (txtAt x y i) k := by
  match i, h with
  | 0, h => exact ⟨t, (Option.some.inj h).symm⟩
  | 1, h => exact ⟨u, (Option.some.inj h).symm⟩
  | i + 2, h =>
    have q : (#[.str x t, .str y u] : Array Value)[i + 2]? = none := by simp
    rw [q] at h
    cases h
section
variable {prog : Program} {w : World} {A : Around} {E : Value → Shared → Prop} {s : Shared}
theorem min_two_strs {a b : Str} {t u : Tok} {Q : Value → Shared → Prop} (hh : A.handled = none)
    (h : ∀ h' tk k, (∀ c o, s.heap.get? c = some o → h'.get? c = some o) → Q (.str (lmin a b) k) { s with heap := h', toks := tk }) :
    wpAny (model prog w) A (call (.builtin "min") [.str a t, .str b u]) Q E s := by
  have hT : (s.heap.push { cls := .type "tuple", data := .seq #[.str a t, .str b u] }).IsTuple s.heap.objs.size #[.str a t, .str b u] := ⟨_, Heap.get?_push_size _ rfl, rfl, 0, rfl⟩
  refine call_min_two (wpAny_pyIter_tuple hT ?_)
  have hsz : (s.heap.push { cls := .type "tuple", data := .seq #[.str a t, .str b u] }).objs.size = s.heap.objs.size + 1 := Heap.size_push ..
  refine ⟨_, [_, s.heap.objs.size], [_], _, _, _, _, rfl, Walks.tuple (A := A.in1) hh _ s.heap.objs.size (by rw [hsz]; exact Nat.ne_of_lt (Nat.lt_succ_self _)) #[.str a t, .str b u],
    ⟨⟨_, Heap.get?_push_size _ rfl, rfl, rfl⟩, hT.push _⟩, fun c hc => ?_, by simp, cmp_lt_strs (txtAt a b) (fun _ _ => two_at), fun v h' tk hP hk => ?_⟩
  · show c < ((s.heap.push _).push _).objs.size
    rw [Heap.size_push, hsz]
    rcases List.mem_cons.mp hc with rfl | hc
    · rw [hsz]; exact Nat.lt_succ_self _
    · rcases List.mem_cons.mp hc with rfl | hc
      · exact Nat.lt_succ_of_lt (Nat.lt_succ_self _)
      · cases hc
  · have hold : ∀ c o, s.heap.get? c = some o → h'.get? c = some o := fun c o e => by
      refine hk c o (fun hm => ?_) (Heap.get?_push_of_some _ (Heap.get?_push_of_some _ e))
      rcases List.mem_cons.mp hm with e1 | hm
      · have := Heap.lt_size e; rw [e1, hsz] at this; exact Nat.lt_irrefl _ (Nat.lt_of_succ_lt this)
      · cases hm
    have hP' : (#[.str a t, .str b u] : Array Value)[argBest (fun i j => decide ((txtAt a b i).cps.toList < (txtAt a b j).cps.toList)) 1]? = some v := hP
    have hv : ∃ k, v = .str (lmin a b) k := by
      by_cases hba : b.cps.toList < a.cps.toList
      · have e : argBest (fun i j => decide ((txtAt a b i).cps.toList < (txtAt a b j).cps.toList)) 1 = 1 := by simp [argBest, txtAt, hba]
        rw [e] at hP'
        refine ⟨u, ?_⟩
        rw [lmin, if_pos hba]
        exact (Option.some.inj hP').symm
      · have e : argBest (fun i j => decide ((txtAt a b i).cps.toList < (txtAt a b j).cps.toList)) 1 = 0 := by simp [argBest, txtAt, hba]
        rw [e] at hP'
        refine ⟨t, ?_⟩
        rw [lmin, if_neg hba]
        exact (Option.some.inj hP').symm
    obtain ⟨k, rfl⟩ := hv
    exact h h' tk k hold
theorem max_two_strs {a b : Str} {t u : Tok} {Q : Value → Shared → Prop} (hh : A.handled = none)
    (h : ∀ h' tk k, (∀ c o, s.heap.get? c = some o → h'.get? c = some o) → Q (.str (lmax a b) k) { s with heap := h', toks := tk }) :
    wpAny (model prog w) A (call (.builtin "max") [.str a t, .str b u]) Q E s := by
  have hT : (s.heap.push { cls := .type "tuple", data := .seq #[.str a t, .str b u] }).IsTuple s.heap.objs.size #[.str a t, .str b u] := ⟨_, Heap.get?_push_size _ rfl, rfl, 0, rfl⟩
  refine call_max_two (wpAny_pyIter_tuple hT ?_)
  have hsz : (s.heap.push { cls := .type "tuple", data := .seq #[.str a t, .str b u] }).objs.size = s.heap.objs.size + 1 := Heap.size_push ..
  refine ⟨_, [_, s.heap.objs.size], [_], _, _, _, _, rfl, Walks.tuple (A := A.in1) hh _ s.heap.objs.size (by rw [hsz]; exact Nat.ne_of_lt (Nat.lt_succ_self _)) #[.str a t, .str b u],
    ⟨⟨_, Heap.get?_push_size _ rfl, rfl, rfl⟩, hT.push _⟩, fun c hc => ?_, by simp, cmp_gt_strs (txtAt a b) (fun _ _ => two_at), fun v h' tk hP hk => ?_⟩
  · show c < ((s.heap.push _).push _).objs.size
    rw [Heap.size_push, hsz]
    rcases List.mem_cons.mp hc with rfl | hc
    · rw [hsz]; exact Nat.lt_succ_self _
    · rcases List.mem_cons.mp hc with rfl | hc
      · exact Nat.lt_succ_of_lt (Nat.lt_succ_self _)
      · cases hc
  · have hold : ∀ c o, s.heap.get? c = some o → h'.get? c = some o := fun c o e => by
      refine hk c o (fun hm => ?_) (Heap.get?_push_of_some _ (Heap.get?_push_of_some _ e))
      rcases List.mem_cons.mp hm with e1 | hm
      · have := Heap.lt_size e; rw [e1, hsz] at this; exact Nat.lt_irrefl _ (Nat.lt_of_succ_lt this)
      · cases hm
    have hP' : (#[.str a t, .str b u] : Array Value)[argBest (fun i j => decide ((txtAt a b j).cps.toList < (txtAt a b i).cps.toList)) 1]? = some v := hP
    have hv : ∃ k, v = .str (lmax a b) k := by
      by_cases hba : a.cps.toList < b.cps.toList
      · have e : argBest (fun i j => decide ((txtAt a b j).cps.toList < (txtAt a b i).cps.toList)) 1 = 1 := by simp [argBest, txtAt, hba]
        rw [e] at hP'
        refine ⟨u, ?_⟩
        rw [lmax, if_pos hba]
        exact (Option.some.inj hP').symm
      · have e : argBest (fun i j => decide ((txtAt a b j).cps.toList < (txtAt a b i).cps.toList)) 1 = 0 := by simp [argBest, txtAt, hba]
        rw [e] at hP'
        refine ⟨t, ?_⟩
        rw [lmax, if_neg hba]
        exact (Option.some.inj hP').symm
    obtain ⟨k, rfl⟩ := hv
    exact h h' tk k hold
end
section
variable {X : Cx}
theorem call_minS (hc : X.calm = true) : CallR X (.builtin "min") (fun xs H Q => ∃ i j, xs = [.str i, .str j] ∧ Q (.str (lmin i j)) H) := by
  intro pins s σ H xs us Q I r h
  obtain ⟨i, j, rfl, q⟩ := h
  obtain ⟨u, w', rfl, ⟨t, rfl⟩, ⟨t', rfl⟩⟩ := vals2 r
  exact min_two_strs (I.ok.hd hc) fun h' tk k kp => ⟨.str _, H, I.kept kp, ⟨_, rfl⟩, q⟩
theorem call_maxS (hc : X.calm = true) : CallR X (.builtin "max") (fun xs H Q => ∃ i j, xs = [.str i, .str j] ∧ Q (.str (lmax i j)) H) := by
  intro pins s σ H xs us Q I r h
  obtain ⟨i, j, rfl, q⟩ := h
  obtain ⟨u, w', rfl, ⟨t, rfl⟩, ⟨t', rfl⟩⟩ := vals2 r
  exact max_two_strs (I.ok.hd hc) fun h' tk k kp => ⟨.str _, H, I.kept kp, ⟨_, rfl⟩, q⟩
end

/-! ### sorted of pairs of texts -/
def encP (b : Addr × Str × Str) : PyData := .tuple [.str b.2.1, .str b.2.2]
def rSortedTT (K : PySem.W.Frag) : List V → Hp → VK → Prop := fun vs H Q => ∃ (a : Addr) (bs : List (Addr × Str × Str)), vs = [V.ref a] ∧ SqL K H a (bs.map fun b => V.ref b.1) ∧ (∀ b ∈ bs, H b.1 = some (.tup [.str b.2.1, .str b.2.2])) ∧
  ∀ p, H p = none → Q (.ref p) (upd H p (.lst ((bs.mergeSort (PySem.W.dataLe false encP)).map fun b => V.ref b.1)))
theorem refs_vals : ∀ {bs : List (Addr × Str × Str)} {its : List Value}, Vals (bs.map fun b => V.ref b.1) its → its = bs.map fun b => Value.ref b.1
  | [], its, h => by cases h; rfl
  | b :: bs, its, h => by
    cases h with
    | cons r t =>
      have e : _ = Value.ref b.1 := r
      rw [e, refs_vals t]
      rfl
theorem vals_refs : ∀ (bs : List (Addr × Str × Str)), Vals (bs.map fun b => V.ref b.1) (bs.map fun b => Value.ref b.1)
  | [] => .nil
  | b :: bs => .cons rfl (vals_refs bs)
theorem each_refs : ∀ (bs : List (Addr × Str × Str)), PySem.W.EachIs (fun v b => v = Value.ref b.1) (bs.map fun b => Value.ref b.1) bs
  | [] => .nil
  | b :: bs => .cons rfl (each_refs bs)
theorem of_each : ∀ {bs : List (Addr × Str × Str)} {out : List Value}, PySem.W.EachIs (fun v b => v = Value.ref b.1) out bs → out = bs.map fun b => Value.ref b.1
  | _, _, .nil => rfl
  | _, _, .cons e t => by rw [e, of_each t]; rfl
theorem each_of {R : Value → Addr × Str × Str → Prop} : ∀ {bs : List (Addr × Str × Str)}, (∀ b ∈ bs, R (Value.ref b.1) b) → PySem.W.EachIs R (bs.map fun b => Value.ref b.1) bs
  | [], _ => .nil
  | b :: bs, h => .cons (h b List.mem_cons_self) (each_of fun c hc => h c (List.mem_cons_of_mem _ hc))
section
variable {X : Cx}
theorem cr_sortedTT (hu : X.A.units + 64 < cLine) : CallR X (.builtin "sorted") (rSortedTT X.K) := by
  intro pins s σ H vs us Q I r h
  obtain ⟨a, bs, rfl, hs, hb, q⟩ := h
  obtain ⟨its, rv, hl, hz⟩ := I.list hs
  rw [Vals.ref1 r]
  have hi := refs_vals rv
  subst hi
  have hlen : bs.length ≤ sizeLine := by rw [List.length_map] at hz; exact hz
  refine PySem.W.sorted_data (R := fun v b => v = Value.ref b.1) (bs := bs) (enc := encP) hl.isList (each_refs bs) (each_of fun b hm => ?_) (PySem.W.AllAlike.of fun b b' => ?_) (PySem.W.Sortable.tuples fun b => ⟨_, _, rfl⟩) hlen (fun b _ => ?_) fun out ho he => ?_
  · obtain ⟨_, its2, r2, o, hob, hc, n, hd⟩ := I.hok _ _ (hb b hm)
    obtain ⟨u1, u2, rfl, ⟨t1, rfl⟩, ⟨t2, rfl⟩⟩ := vals2 r2
    exact ⟨_, Reads.tuple hob hc hd (.cons (Reads.str _ _) (.cons (Reads.str _ _) .nil))⟩
  · simp [encP, PySem.W.alike, PySem.W.alikeAll]
  · have : (encP b).depth = 1 := by simp [encP, PyData.depth, PyData.depthAll]
    omega
  · have eo := of_each he
    subst eo
    obtain ⟨ep, he'⟩ := PyProof.Rows.sortedAll_at s.heap (bs.map fun b => Value.ref b.1) ((bs.mergeSort (PySem.W.dataLe false encP)).map fun b => Value.ref b.1).toArray
    have hlen2 : ((bs.mergeSort (PySem.W.dataLe false encP)).map fun b => V.ref b.1).length ≤ sizeLine := by rw [List.length_map, List.length_mergeSort]; exact hlen
    exact ⟨.ref _, upd H (s.heap.objs.size + 1) (.lst ((bs.mergeSort (PySem.W.dataLe false encP)).map fun b => V.ref b.1)), I.laid (t' := s.toks) (fun _ _ => PyProof.Rows.sortedAll_old) (Nat.le_succ _) ⟨hlen2, _, ep, vals_refs _, he'⟩, rfl, q _ (I.hok.fresh (Nat.le_succ _))⟩
end
end Lk
set_option maxRecDepth 100000
set_option maxHeartbeats 4000000
namespace Lk
open PySem PySem.Spec PyProof.Rows L2

/-! ### heaps -/
theorem same_upd {H : Hp} {p : Addr} {o : HO} (h : H p = none) : Same H (upd H p o) := fun b x e => by
  rw [upd_ne (ne_of_none e h)]
  exact e
/-- all but what stands at b is as it was -/
def Oth (b : Addr) (H H' : Hp) : Prop := ∀ a o, a ≠ b → H a = some o → H' a = some o
theorem Oth.refl (b : Addr) (H : Hp) : Oth b H H := fun _ _ _ h => h
theorem Oth.trans {b : Addr} {H H1 H2 : Hp} (x : Oth b H H1) (y : Oth b H1 H2) : Oth b H H2 := fun a o n h => y a o n (x a o n h)
theorem Oth.of {b : Addr} {H H' : Hp} (x : Same H H') : Oth b H H' := fun a o _ h => x a o h
theorem Oth.upd {b : Addr} {H : Hp} {o : HO} : Oth b H (upd H b o) := fun a u n h => by rw [upd_ne n]; exact h
theorem Oth.free {b p : Addr} {H H' : Hp} (x : Oth b H H') (hb : p ≠ b) (h : H' p = none) : H p = none := by
  cases q : H p with
  | none => rfl
  | some o =>
    rw [x p o hb q] at h
    cases h
def IsBox (H : Hp) (b : Addr) : Prop := ∃ x y z : Int, H b = some (.lst [.int x, .int y, .int z])
theorem IsBox.same {H H' : Hp} {b : Addr} (x : Same H H') (h : IsBox H b) : IsBox H' b := by
  obtain ⟨i, j, k, e⟩ := h
  exact ⟨i, j, k, x _ _ e⟩
theorem IsBox.ne_tup {H : Hp} {b t : Addr} {xs : List V} (h : IsBox H b) (ht : H t = some (.tup xs)) : t ≠ b := by
  obtain ⟨i, j, k, e⟩ := h
  exact ne_of ht e (fun z => nomatch z)
theorem IsBox.ne_strs {H : Hp} {b t : Addr} {xs : List Str} (h : IsBox H b) (ht : H t = some (.lst (xs.map V.str))) : t ≠ b := by
  obtain ⟨i, j, k, e⟩ := h
  refine ne_of ht e (fun z => ?_)
  match xs, z with
  | [], z => cases z
  | x :: r, z => cases z
theorem IsBox.ne_none {H : Hp} {b p : Addr} (h : IsBox H b) (hp : H p = none) : p ≠ b := by
  obtain ⟨i, j, k, e⟩ := h
  exact (ne_of_none e hp).symm
theorem small9 {n : Nat} (h : n ≤ 9000) : n < sizeLine := Nat.lt_of_le_of_lt h (by decide)
theorem small_le {n : Nat} (h : n ≤ 1000) : n ≤ sizeLine := Nat.le_of_lt (small1000 h)

/-! ### slices -/
def cutL {α : Type} (xs : List α) (lo hi : Option Int) : List α := (xs.drop (HT.sIx xs.length 0 lo)).take (HT.sIx xs.length xs.length hi - HT.sIx xs.length 0 lo)
theorem cutV_map {α : Type} (f : α → V) (xs : List α) (lo hi : Option Int) : cutV (xs.map f) lo hi = (cutL xs lo hi).map f := by
  unfold cutV cutL
  rw [List.length_map, List.map_take, List.map_drop]
theorem cutL_to {α : Type} (xs : List α) (k : Nat) : cutL xs none (some (k : Int)) = xs.take k := by
  unfold cutL
  rw [HT.sIx_none, HT.sIx_nat, List.drop_zero, Nat.sub_zero]
  by_cases h : k ≤ xs.length
  · rw [Nat.min_eq_left h]
  · rw [Nat.min_eq_right (by omega), List.take_of_length_le (Nat.le_refl _), List.take_of_length_le (by omega)]
theorem cutL_from {α : Type} (xs : List α) (k : Nat) : cutL xs (some (k : Int)) none = xs.drop k := by
  unfold cutL
  rw [HT.sIx_none, HT.sIx_nat]
  by_cases h : k ≤ xs.length
  · rw [Nat.min_eq_left h, List.take_of_length_le (by rw [List.length_drop]; exact Nat.le_refl _)]
  · rw [Nat.min_eq_right (by omega), List.drop_length, List.drop_eq_nil_of_le (by omega), List.take_nil]
theorem cutL_le {α : Type} (xs : List α) (lo hi : Option Int) : (cutL xs lo hi).length ≤ xs.length := by
  unfold cutL
  rw [List.length_take, List.length_drop]
  omega
theorem cutL_has {α : Type} {xs : List α} {k : Nat} {hi : Option Int} (h : 0 < (cutL xs (some (k : Int)) hi).length) : k < xs.length := by
  unfold cutL at h
  rw [List.length_take, List.length_drop, HT.sIx_nat] at h
  omega
theorem at_map {α : Type} {f : α → V} {xs : List α} {i : Nat} {x : V} (h : (xs.map f)[i]? = some x) : ∃ y, xs[i]? = some y ∧ x = f y := by
  rw [List.getElem?_map] at h
  cases e : xs[i]? with
  | none => rw [e] at h; cases h
  | some y =>
    rw [e] at h
    exact ⟨y, rfl, (Option.some.inj h).symm⟩
theorem ix_map {α : Type} {f : α → V} {xs : List α} {i : Nat} {y : α} (h : xs[i]? = some y) : (xs.map f)[i]? = some (f y) := by
  rw [List.getElem?_map, h]
  rfl
theorem set_map {α : Type} {f : α → V} {xs : List α} {i : Nat} {y : α} : (xs.map f).set i (f y) = (xs.set i y).map f := by
  rw [List.map_set]

theorem bit01 (k : Bool) : -(2 ^ 64) < (if k = true then 1 else 0 : Int) ∧ (if k = true then 1 else 0 : Int) < 2 ^ 64 := by cases k <;> decide
theorem bit2 (k : Bool) : (0 : Int) ≤ (if k = true then 1 else 0 : Int) ∧ (if k = true then 1 else 0 : Int) ≤ 1 := by cases k <;> decide

/-! ### names of the built-in -/
structure Blt (mg : Str → Option Value) : Prop where
  len : mg "len" = none
  abs : mg "abs" = none
  int : mg "int" = none
  list : mg "list" = none
  tuple : mg "tuple" = none
  enumerate : mg "enumerate" = none
  range : mg "range" = none
  min : mg "min" = none
  max : mg "max" = none
  sorted : mg "sorted" = none
  isinstance : mg "isinstance" = none
  zip : mg "zip" = none
  all : mg "all" = none
  str : mg "str" = none
  bool : mg "bool" = none
  any : mg "any" = none
  repr : mg "repr" = none
  set : mg "set" = none
  sum : mg "sum" = none

/-! ### a def as its callers know it -/
structure Cal (P : Program) (w : World) (K : PySem.W.Frag) (mg : Str → Option Value) (base : Heap) (k : Nat) (x : Str) (ps : List Str) (sp : Sp) : Prop where
  ex : ∃ f fd, FnOk P w K mg base CX0 k f fd ps sp ∧ mg x = some (.ref f) ∧ PySem.W.keepIn K (.ref f) = true ∧ Binds K fd ps []
theorem Cal.mono {P : Program} {w : World} {K : PySem.W.Frag} {mg : Str → Option Value} {base : Heap} {j k : Nat} {x : Str} {ps : List Str} {sp : Sp} (C : Cal P w K mg base j x ps sp) (h : j ≤ k := by first | decide | omega) : Cal P w K mg base k x ps sp := by
  obtain ⟨f, fd, F, r⟩ := C.ex
  exact ⟨f, fd, F.mono h, r⟩
section
variable {X : Cx} {k n : Nat} {x : Str} {ps : List Str} {sp : Sp} {p pos : Pos} {e : Expr} {es : List Expr} {t : TA}
theorem pe_cal (C : Cal X.prog X.w X.K X.mg X.base k x ps sp) (hr : Room n X.A) (ha : PA X (e :: es) t) (hle : k ≤ n := by first | decide | omega) (hg : Gl X x := by rfl) (hdb : (x == ("__debug__" : Str)) = false := by decide)
    (he : starEach (e :: es) X.env = (false, eval e X.env) :: starEach es X.env := by rfl) (hpl : (backTo pos (starEach es X.env)).any (·.1) = false := by rfl) :
    PE X (.Call (.Name x p) (e :: es) [] pos) (tCall sp [] E0 t) := by
  obtain ⟨f, fd, F, hm, hk, hb⟩ := C.ex
  exact pe_call F (hr.mono hle) hg hm hk hb .nil pass0 ha (hdb := hdb) (he := he) (hpl := hpl)
end

/-! ### drawing -/
def spTake : Sp := fun vs H Q _ => ∃ (b : Addr) (many : Int), vs = [.ref b, .int many] ∧ IsBox H b ∧ 0 < many ∧ many < 1073741824 ∧
  ∀ (v : Int) (H' : Hp), Oth b H H' → IsBox H' b → 0 ≤ v → v < many → Q (.int v) H'
def spBox : Sp := fun vs H Q _ => ∃ (a : Addr) (ns : List Int) (k : Nat), vs = [.ref a, .int k] ∧ H a = some (.lst (ns.map V.int)) ∧ k < ns.length ∧ k < 1000 ∧
  ∀ (b : Addr) (H' : Hp), Same H H' → H b = none → IsBox H' b → Q (.ref b) H'
def spCells (K : PySem.W.Frag) : Sp := fun vs H Q _ => ∃ (a : Addr) (ns : List Int) (u : Nat), vs = [.ref a, .int u] ∧ SqL K H a (ns.map V.int) ∧ ns.length ≤ 63 ∧ 0 < u ∧ u ≤ 3 ∧
  ∀ (c : Addr) (ms : List Int) (H' : Hp), Same H H' → H c = none → H' c = some (.lst (ms.map V.int)) → 0 < ms.length → ms.length ≤ 3 → Q (.ref c) H'
end Lk
set_option maxRecDepth 100000
set_option maxHeartbeats 4000000
namespace Lk
open PySem PySem.Spec PyProof.Rows L2

/-! ### texts and names -/
abbrev tlx (x : Str) : List Nat := x.cps.toList
theorem len_tlx (x : Str) : x.length = (tlx x).length := by
  show x.cps.size = x.cps.toList.length
  rw [Array.length_toList]
theorem tlx_app (x y : Str) : tlx (x ++ y) = tlx x ++ tlx y := by
  show (x.cps ++ y.cps).toList = _
  rw [Array.toList_append]
theorem str_ext {x y : Str} (h : tlx x = tlx y) : x = y := by
  obtain ⟨a⟩ := x
  obtain ⟨b⟩ := y
  have e : a = b := Array.toList_inj.mp h
  rw [e]
def Low (l : List Nat) : Prop := ∀ c ∈ l, 97 ≤ c ∧ c ≤ 122
def NameOk (x : Str) : Prop := 1 ≤ (tlx x).length ∧ (tlx x).length ≤ 8 ∧ Low (tlx x)
theorem NameOk.len {x : Str} (h : NameOk x) : x.length ≤ 8 := by rw [len_tlx]; exact h.2.1
def Good (x : Str) : Prop := PyData.strOk x = true
def Goods (xs : List Str) : Prop := ∀ x ∈ xs, Good x
theorem NameOk.good {x : Str} (h : NameOk x) : Good x := by
  show x.cps.all (· < 0x110000) = true
  rw [← Array.all_toList, List.all_eq_true]
  intro c hc
  have q := h.2.2 c hc
  exact decide_eq_true (by omega)
theorem lmin_good {x y : Str} (hx : Good x) (hy : Good y) : Good (lmin x y) := by
  unfold lmin
  split
  · exact hy
  · exact hx
theorem lmax_good {x y : Str} (hx : Good x) (hy : Good y) : Good (lmax x y) := by
  unfold lmax
  split
  · exact hy
  · exact hx
def abc : Str := "abcdefghijklmnopqrstuvwxyz"
theorem abc_at : ∀ i : Nat, i < 26 → (tlx abc)[i]? = some (97 + i) := by decide +kernel
theorem abc_len : abc.length = 26 := by decide +kernel
theorem abc_ix {i : Int} (h0 : 0 ≤ i) (h1 : i < 26) : atI (tlx abc) i = some (97 + i.toNat) := by
  have e : i = ((i.toNat : Nat) : Int) := by omega
  have q := atI_nat (abc_at i.toNat (by omega))
  rw [← e] at q
  exact q
theorem Low.one {n : Nat} (h : n < 26) : Low [97 + n] := fun c hc => by
  have e : c = 97 + n := by simpa using hc
  omega
theorem join0 : ∀ ys : List Str, tlx (Txt.join ("" : Str) ys) = (ys.map tlx).flatten := by
  intro ys
  rw [TL.join_eq]
  refine (TL.tl_join _ _).trans ?_
  have e : TL.tl ("" : Str) = [] := by decide +kernel
  rw [e]
  have g : ∀ l : List (List Nat), TL.joinL [] l = l.flatten := by
    intro l
    induction l with
    | nil => rfl
    | cons a r ih =>
      cases r with
      | nil => simp [TL.joinL]
      | cons b r =>
        show a ++ ([] ++ TL.joinL [] (b :: r)) = _
        rw [ih]
        simp
  exact g (ys.map TL.tl)
def IsOne (x : Str) : Prop := ∃ n : Nat, n < 26 ∧ x = ⟨#[97 + n]⟩
theorem ones_flat : ∀ {ys : List Str}, (∀ y ∈ ys, IsOne y) → ((ys.map tlx).flatten).length = ys.length ∧ Low (ys.map tlx).flatten
  | [], _ => ⟨rfl, fun _ h => nomatch h⟩
  | y :: r, h => by
    obtain ⟨e1, e2⟩ := ones_flat (ys := r) fun z hz => h z (List.mem_cons_of_mem _ hz)
    obtain ⟨n, hn, rfl⟩ := h y List.mem_cons_self
    constructor
    · rw [List.map_cons, List.flatten_cons, List.length_append, e1]
      simp
      omega
    · rw [List.map_cons, List.flatten_cons]
      intro c hc
      rcases List.mem_append.mp hc with q | q
      · have e : c = 97 + n := by simpa using q
        omega
      · exact e2 c q
theorem ones_len : ∀ {ys : List Str}, (∀ y ∈ ys, IsOne y) → (ys.map (·.length)).sum = ys.length
  | [], _ => rfl
  | y :: r, h => by
    have ih := ones_len (ys := r) fun z hz => h z (List.mem_cons_of_mem _ hz)
    obtain ⟨n, hn, rfl⟩ := h y List.mem_cons_self
    rw [List.map_cons, List.sum_cons, ih, List.length_cons]
    show 1 + r.length = _
    omega
theorem cutS_tlx (z : Str) (lo hi : Option Int) : tlx (cutS z lo hi) = cutL (tlx z) lo hi := by
  unfold cutS cutL
  show (List.toArray _).toList = _
  rw [List.toList_toArray, len_tlx]
theorem Low.cut {l : List Nat} {lo hi : Option Int} (h : Low l) : Low (cutL l lo hi) := fun c hc => h c (List.mem_of_mem_drop (List.mem_of_mem_take hc))
theorem Low.app {l m : List Nat} (h : Low l) (h' : Low m) : Low (l ++ m) := fun c hc => (List.mem_append.mp hc).elim (h c) (h' c)
theorem apart {step : Int} (hs : step = 1 ∨ step = 3 ∨ step = 7 ∨ step = 25) {i j : Nat} (h : j < i) (hi : i < 26) (f : Int) : (f + step * (i : Int)) % 26 ≠ (f + step * (j : Int)) % 26 := by
  rcases hs with rfl | rfl | rfl | rfl <;> omega
/-- a text's last sign -/
def lastC (x : Str) : Option Nat := (tlx x).getLast?
theorem lastC_app (x : Str) (n : Nat) : lastC (x ++ ⟨#[n]⟩) = some n := by
  unfold lastC
  rw [tlx_app]
  simp
theorem ins_perm {α : Type} (l : List α) (p : Nat) (x : α) : (l.take p ++ [x] ++ l.drop p).Perm (x :: l) := by
  have e : l.take p ++ [x] ++ l.drop p = l.take p ++ x :: l.drop p := by simp
  rw [e]
  refine List.perm_middle.trans ?_
  rw [List.take_append_drop]
theorem ins_map {α : Type} (f : α → V) (l : List α) (p : Nat) (x : α) : (l.map f).take p ++ [f x] ++ (l.map f).drop p = (l.take p ++ [x] ++ l.drop p).map f := by
  rw [List.map_append, List.map_append, List.map_take, List.map_drop]
  rfl

/-! ### the order of texts -/
theorem lmin_or (x y : Str) : (lmin x y = x ∧ lmax x y = y) ∨ (lmin x y = y ∧ lmax x y = x) := by
  unfold lmin lmax
  by_cases h : y.cps.toList < x.cps.toList
  · rw [if_pos h, if_neg (List.lt_asymm h)]
    exact .inr ⟨rfl, rfl⟩
  · rw [if_neg h]
    by_cases h2 : x.cps.toList < y.cps.toList
    · rw [if_pos h2]
      exact .inl ⟨rfl, rfl⟩
    · rw [if_neg h2]
      have e : x = y := str_ext (List.le_antisymm h h2)
      subst e
      exact .inl ⟨rfl, rfl⟩
theorem lpair_comm (x y : Str) : (lmin x y, lmax x y) = (lmin y x, lmax y x) := by
  unfold lmin lmax
  by_cases h : y.cps.toList < x.cps.toList
  · rw [if_pos h, if_neg (List.lt_asymm h), if_neg (List.lt_asymm h), if_pos h]
  · by_cases h2 : x.cps.toList < y.cps.toList
    · rw [if_neg h, if_pos h2, if_pos h2, if_neg h]
    · have e : x = y := str_ext (List.le_antisymm h h2)
      subst e
      rfl
/-- friends, as a law has them: each pair a least and a greatest -/
def PalsOk (ps : List (Str × Str)) : Prop := ∀ p ∈ ps, ∃ m q, Good m ∧ Good q ∧ p = (lmin m q, lmax m q)
def frd (ps : List (Str × Str)) (a b : Str) : Bool := decide ((a, b) ∈ ps ∨ (b, a) ∈ ps)
theorem frd_comm (ps : List (Str × Str)) (a b : Str) : frd ps a b = frd ps b a := by
  unfold frd
  exact decide_eq_decide.mpr Or.comm
theorem frd_pair {ps : List (Str × Str)} (h : PalsOk ps) (a b : Str) : decide ((lmin a b, lmax a b) ∈ ps) = frd ps a b := by
  unfold frd
  refine decide_eq_decide.mpr ⟨fun q => ?_, fun q => ?_⟩
  · rcases lmin_or a b with ⟨e1, e2⟩ | ⟨e1, e2⟩
    · rw [e1, e2] at q; exact .inl q
    · rw [e1, e2] at q; exact .inr q
  · rcases q with q | q
    · obtain ⟨m, n, _, _, e⟩ := h _ q
      have e1 : a = lmin m n := (Prod.mk.inj e).1
      have e2 : b = lmax m n := (Prod.mk.inj e).2
      rcases lmin_or m n with ⟨f1, f2⟩ | ⟨f1, f2⟩
      · rw [f1] at e1; rw [f2] at e2; subst e1 e2; rw [← e]; exact q
      · rw [f1] at e1; rw [f2] at e2; subst e1 e2; rw [lpair_comm, ← e]; exact q
    · obtain ⟨m, n, _, _, e⟩ := h _ q
      have e1 : b = lmin m n := (Prod.mk.inj e).1
      have e2 : a = lmax m n := (Prod.mk.inj e).2
      rcases lmin_or m n with ⟨f1, f2⟩ | ⟨f1, f2⟩
      · rw [f1] at e1; rw [f2] at e2; subst e1 e2; rw [lpair_comm, ← e]; exact q
      · rw [f1] at e1; rw [f2] at e2; subst e1 e2; rw [← e]; exact q

theorem menu4 {v : Int} (h0 : 0 ≤ v) (h1 : v < 4) : ∃ step : Int, (step = 1 ∨ step = 3 ∨ step = 7 ∨ step = 25) ∧ atI [V.int 1, V.int 3, V.int 7, V.int 25] v = some (.int step) := by
  have e : v = 0 ∨ v = 1 ∨ v = 2 ∨ v = 3 := by omega
  rcases e with rfl | rfl | rfl | rfl
  · exact ⟨1, by simp, rfl⟩
  · exact ⟨3, by simp, rfl⟩
  · exact ⟨7, by simp, rfl⟩
  · exact ⟨25, by simp, rfl⟩
theorem name_ok {stem : Str} {hi : Option Int} {n : Nat} (h1 : (tlx stem).length ≤ 7) (h2 : Low (tlx stem)) (hn : n < 26) : NameOk (cutS stem none hi ++ ⟨#[97 + n]⟩) := by
  have e : tlx (cutS stem none hi ++ ⟨#[97 + n]⟩) = cutL (tlx stem) none hi ++ [97 + n] := by rw [tlx_app, cutS_tlx]
  have q := cutL_le (tlx stem) none hi
  refine ⟨?_, ?_, ?_⟩
  · rw [e]; simp
  · rw [e, List.length_append, List.length_singleton]; omega
  · rw [e]; exact (Low.cut h2).app (Low.one hn)

/-! ### friends as they stand -/
abbrev B3 := Addr × Str × Str
def refs (bs : List B3) : List V := bs.map fun b => V.ref b.1
def PairsAt (H : Hp) (bs : List B3) : Prop := ∀ b ∈ bs, H b.1 = some (.tup [.str b.2.1, .str b.2.2])
theorem PairsAt.same {H H' : Hp} {bs : List B3} (s : Same H H') (h : PairsAt H bs) : PairsAt H' bs := fun b hb => s _ _ (h b hb)
theorem PairsAt.oth {H H' : Hp} {b : Addr} {bs : List B3} (s : Oth b H H') (hb : IsBox H b) (h : PairsAt H bs) : PairsAt H' bs := fun c hc => s _ _ (hb.ne_tup (h c hc)) (h c hc)
/-- FRIENDS as a tuple -/
def PalsAt (H : Hp) (a : Addr) (ps : List (Str × Str)) : Prop := ∃ bs : List B3, H a = some (.tup (refs bs)) ∧ PairsAt H bs ∧ ps = bs.map (·.2)
theorem PalsAt.same {H H' : Hp} {a : Addr} {ps : List (Str × Str)} (s : Same H H') (h : PalsAt H a ps) : PalsAt H' a ps := by
  obtain ⟨bs, h1, h2, h3⟩ := h
  exact ⟨bs, s _ _ h1, h2.same s, h3⟩
theorem PalsAt.oth {H H' : Hp} {a b : Addr} {ps : List (Str × Str)} (s : Oth b H H') (hb : IsBox H b) (h : PalsAt H a ps) : PalsAt H' a ps := by
  obtain ⟨bs, h1, h2, h3⟩ := h
  exact ⟨bs, s _ _ (hb.ne_tup h1) h1, h2.oth s hb, h3⟩
/-- .. or a list of these -/
def FrAt (H : Hp) (a : Addr) (ps : List (Str × Str)) : Prop := ∃ bs : List B3, (H a = some (.tup (refs bs)) ∨ H a = some (.lst (refs bs))) ∧ PairsAt H bs ∧ ps = bs.map (·.2)
theorem PalsAt.fr {H : Hp} {a : Addr} {ps : List (Str × Str)} (h : PalsAt H a ps) : FrAt H a ps := by
  obtain ⟨bs, h1, h2, h3⟩ := h
  exact ⟨bs, .inl h1, h2, h3⟩
theorem FrAt.same {H H' : Hp} {a : Addr} {ps : List (Str × Str)} (s : Same H H') (h : FrAt H a ps) : FrAt H' a ps := by
  obtain ⟨bs, h1, h2, h3⟩ := h
  exact ⟨bs, h1.elim (fun e => .inl (s _ _ e)) (fun e => .inr (s _ _ e)), h2.same s, h3⟩
/-- what _law_pals tells of a pair -/
def OfPool (pool : List Str) (ps : List (Str × Str)) : Prop := ∀ p ∈ ps, ∃ m q, m ∈ pool ∧ q ∈ pool ∧ m ≠ q ∧ p = (lmin m q, lmax m q)
theorem OfPool.ok {pool : List Str} {ps : List (Str × Str)} (h : OfPool pool ps) (hg : Goods pool) : PalsOk ps := fun p hp => by
  obtain ⟨m, q, h1, h2, _, e⟩ := h p hp
  exact ⟨m, q, hg m h1, hg q h2, e⟩
theorem OfPool.irr {pool : List Str} {ps : List (Str × Str)} (h : OfPool pool ps) (x : Str) : frd ps x x = false := by
  unfold frd
  refine decide_eq_false fun z => ?_
  have z' : (x, x) ∈ ps := z.elim id id
  obtain ⟨m, q, _, _, ne, e⟩ := h _ z'
  have e1 := (Prod.mk.inj e).1
  have e2 := (Prod.mk.inj e).2
  rcases lmin_or m q with ⟨f1, f2⟩ | ⟨f1, f2⟩
  · exact ne ((f1.symm.trans e1.symm).trans (e2.trans f2))
  · exact ne ((f2.symm.trans e2.symm).trans (e1.trans f1))
def PGood (ps : List (Str × Str)) : Prop := ∀ p ∈ ps, Good p.1 ∧ Good p.2
theorem PalsOk.good {ps : List (Str × Str)} (h : PalsOk ps) : PGood ps := fun p hp => by
  obtain ⟨m, q, h1, h2, e⟩ := h p hp
  rw [e]
  exact ⟨lmin_good h1 h2, lmax_good h1 h2⟩
def spPals : Sp := fun vs H Q _ => ∃ (b l : Addr) (pool : List Str), vs = [.ref b, .ref l] ∧ IsBox H b ∧ H l = some (.lst (pool.map V.str)) ∧ pool.Nodup ∧ pool.length ≤ 26 ∧
  ∀ (a : Addr) (bs : List B3) (H' : Hp), Oth b H H' → IsBox H' b → H a = none → H' a = some (.tup (refs bs)) → PairsAt H' bs → OfPool pool (bs.map (·.2)) → bs.length ≤ 1000 → (∃ cs : List B3, bs = cs.mergeSort (PySem.W.dataLe false encP)) → Q (.ref a) H'

def spNames : Sp := fun vs H Q _ => ∃ (b : Addr) (many : Nat), vs = [.ref b, .int many] ∧ IsBox H b ∧ many ≤ 26 ∧
  ∀ (l : Addr) (names : List Str) (H' : Hp), Oth b H H' → IsBox H' b → H l = none → H' l = some (.lst (names.map V.str)) → names.length = many → names.Nodup → (∀ x ∈ names, NameOk x) → Q (.ref l) H'
end Lk
set_option maxRecDepth 100000
set_option maxHeartbeats 4000000
namespace Lk
open PySem PySem.Spec PyProof.Rows L2
theorem u65 {k : Nat} {A : Around} (r : Room k A) : A.units + 65 < cLine := by have := r.un; omega

/-! ### data -/
def encQ (p : Str × Str) : PyData := .tuple [.str p.1, .str p.2]
theorem eqv_strs : ∀ xs ys : List Str, PyData.eqvAll (xs.map .str) (ys.map .str) = decide (xs = ys)
  | [], [] => by simp [PyData.eqvAll]
  | [], _ :: _ => by simp [PyData.eqvAll]
  | _ :: _, [] => by simp [PyData.eqvAll]
  | x :: xs, y :: ys => by
    rw [List.map_cons, List.map_cons, PyData.eqvAll, eqv_strs xs ys]
    by_cases h : x = y
    · subst h
      simp [PyData.eqv]
    · simp [PyData.eqv, h]
theorem eqv_pair (p q : Str × Str) : PyData.eqv (encQ p) (encQ q) = decide (p = q) := by
  obtain ⟨a, b⟩ := p
  obtain ⟨c, d⟩ := q
  have e := eqv_strs [a, b] [c, d]
  have e2 : PyData.eqv (encQ (a, b)) (encQ (c, d)) = PyData.eqvAll ([a, b].map .str) ([c, d].map .str) := by simp [encQ, PyData.eqv]
  rw [e2, e]
  refine decide_eq_decide.mpr ?_
  simp
theorem lay_strs : ∀ {xs : List Str}, Goods xs → PyData.canLayAll0 (xs.map .str) = true
  | [], _ => by simp [PyData.canLayAll0]
  | x :: xs, h => by
    have h1 : PyData.strOk x = true := h x List.mem_cons_self
    simp [PyData.canLayAll0, PyData.canLay0, h1, lay_strs (xs := xs) fun y hy => h y (List.mem_cons_of_mem _ hy)]
theorem dep_strs : ∀ xs : List Str, PyData.depthAll (xs.map .str) = 0
  | [] => by simp [PyData.depthAll]
  | x :: xs => by simp [PyData.depthAll, PyData.depth, dep_strs xs]
theorem sh_list {xs : List Str} (h : Goods xs) : SeqAt.shaped (.list (xs.map .str)) = true := by
  show (PyData.canLay0 (.list (xs.map .str)) && decide (PyData.depth (.list (xs.map .str)) ≤ 64)) = true
  simp [PyData.canLay0, PyData.depth, lay_strs h, dep_strs]
theorem sh_tuple {xs : List Str} (h : Goods xs) : SeqAt.shaped (.tuple (xs.map .str)) = true := by
  show (PyData.canLay0 (.tuple (xs.map .str)) && decide (PyData.depth (.tuple (xs.map .str)) ≤ 64)) = true
  simp [PyData.canLay0, PyData.depth, lay_strs h, dep_strs]
theorem lay_pairs : ∀ {ps : List (Str × Str)}, PGood ps → PyData.canLayAll0 (ps.map encQ) = true
  | [], _ => by simp [PyData.canLayAll0]
  | p :: ps, h => by
    have h1 : PyData.strOk p.1 = true := (h p List.mem_cons_self).1
    have h2 : PyData.strOk p.2 = true := (h p List.mem_cons_self).2
    simp [PyData.canLayAll0, PyData.canLay0, encQ, h1, h2, lay_pairs (ps := ps) fun y hy => h y (List.mem_cons_of_mem _ hy)]
theorem dep_pairs : ∀ ps : List (Str × Str), PyData.depthAll (ps.map encQ) ≤ 1
  | [] => by simp [PyData.depthAll]
  | p :: ps => by
    have := dep_pairs ps
    simp only [List.map_cons, PyData.depthAll, encQ, PyData.depth]
    omega
theorem sh_pals {ps : List (Str × Str)} (h : PGood ps) : SeqAt.shaped (.tuple (ps.map encQ)) = true := by
  show (PyData.canLay0 (.tuple (ps.map encQ)) && decide (PyData.depth (.tuple (ps.map encQ)) ≤ 64)) = true
  have := dep_pairs ps
  have e : PyData.depth (.tuple (ps.map encQ)) ≤ 64 := by
    simp only [PyData.depth]
    omega
  rw [decide_eq_true e, Bool.and_true]
  simp only [PyData.canLay0]
  exact lay_pairs h
theorem goods2 {x y : Str} (hx : Good x) (hy : Good y) : Goods [x, y] := fun z hz => by
  rcases List.mem_cons.mp hz with rfl | hz
  · exact hx
  · have e : z = y := by simpa using hz
    rw [e]
    exact hy
theorem sh_pair {p : Str × Str} (h : Good p.1 ∧ Good p.2) : SeqAt.shaped (encQ p) = true := sh_tuple (xs := [p.1, p.2]) (goods2 h.1 h.2)
section
variable {K : PySem.W.Frag} {H : Hp}
theorem dp_strs : ∀ xs : List Str, DpAll K H (xs.map V.str) (xs.map .str)
  | [] => .nil
  | x :: xs => .cons (.str x) (dp_strs xs)
theorem dp_list {a : Addr} {xs : List Str} (h : H a = some (.lst (xs.map V.str))) : Dp K H (.ref a) (.list (xs.map .str)) := .lst (.inl (.inl h)) (dp_strs xs)
theorem dp_tuple {a : Addr} {xs : List Str} (h : H a = some (.tup (xs.map V.str))) : Dp K H (.ref a) (.tuple (xs.map .str)) := .tup (.inl (.inl h)) (dp_strs xs)
theorem dp_pairs : ∀ {bs : List B3}, PairsAt H bs → DpAll K H (refs bs) ((bs.map (·.2)).map encQ)
  | [], _ => .nil
  | b :: bs, h => .cons (dp_tuple (xs := [b.2.1, b.2.2]) (h b List.mem_cons_self)) (dp_pairs (bs := bs) fun c hc => h c (List.mem_cons_of_mem _ hc))
theorem dp_pals {a : Addr} {ps : List (Str × Str)} (h : PalsAt H a ps) : Dp K H (.ref a) (.tuple (ps.map encQ)) := by
  obtain ⟨bs, h1, h2, rfl⟩ := h
  exact .tup (.inl (.inl h1)) (dp_pairs h2)
end
theorem any_pair (ps : List (Str × Str)) (p : Str × Str) : ((ps.map encQ).any fun z => PyData.eqv z (encQ p)) = decide (p ∈ ps) := by
  rw [List.any_map]
  induction ps with
  | nil => rfl
  | cons q r ih =>
    rw [List.any_cons, ih]
    show (PyData.eqv (encQ q) (encQ p) || _) = _
    rw [eqv_pair]
    by_cases h : q = p
    · subst h
      simp
    · have h' : ¬ p = q := fun z => h z.symm
      simp [h, h']

/-! ### tuples whose object is known to have no dict: their methods may be called -/
def TupAt (H : Hp) (t : Addr) (xs : List V) : Prop := ∃ o : Obj, o.dict = none ∧ H t = some (.frz o (.tup xs))
theorem TupAt.same {H H' : Hp} {t : Addr} {xs : List V} (s : Same H H') (h : TupAt H t xs) : TupAt H' t xs := by
  obtain ⟨o, h1, h2⟩ := h
  exact ⟨o, h1, s _ _ h2⟩
theorem TupAt.sq {K : PySem.W.Frag} {H : Hp} {t : Addr} {xs : List V} (h : TupAt H t xs) : SqT K H t xs := by
  obtain ⟨o, _, h2⟩ := h
  exact .inl (.inr ⟨o, h2⟩)
theorem TupAt.ne {H : Hp} {b t : Addr} {xs : List V} (h : TupAt H t xs) (hb : IsBox H b) : t ≠ b := by
  obtain ⟨o, _, h2⟩ := h
  obtain ⟨i, j, k, e⟩ := hb
  exact ne_of h2 e (fun z => nomatch z)
theorem TupAt.ne_new {H : Hp} {p t : Addr} {xs : List V} (h : TupAt H t xs) (hp : H p = none) : t ≠ p := by
  obtain ⟨o, _, h2⟩ := h
  exact ne_of_none h2 hp
theorem TupAt.oth {H H' : Hp} {b t : Addr} {xs : List V} (s : Oth b H H') (hb : IsBox H b) (h : TupAt H t xs) : TupAt H' t xs := by
  have n := h.ne hb
  obtain ⟨o, h1, h2⟩ := h
  exact ⟨o, h1, s _ _ n h2⟩
/-- all but what stands at l, as it was -/
theorem TupAt.upd_ {H : Hp} {l t : Addr} {xs ys : List V} {o' : HO} (h : TupAt H t xs) (hl : H l = some (.lst ys)) : TupAt (upd H l o') t xs := by
  obtain ⟨o, h1, h2⟩ := h
  exact ⟨o, h1, (upd_ne (ne_of h2 hl (fun z => nomatch z))).trans h2⟩
theorem cutV_whole {xs : List V} {lo hi : Option Int} (h : HT.sIx xs.length 0 lo = 0 ∧ HT.sIx xs.length xs.length hi = xs.length) : cutV xs lo hi = xs := by
  unfold cutV
  rw [h.1, h.2, List.drop_zero, Nat.sub_zero, List.take_of_length_le (Nat.le_refl _)]
section
variable {X : Cx}
theorem laid_tup {pins : List (Addr × Obj)} {σ : L2.St} {H : Hp} {s : Shared} {xs : List V} {its : List Value} (I : Inv X pins σ H s) (hz : xs.length ≤ sizeLine) (r : Vals xs its) :
    Inv X pins σ (upd H s.heap.objs.size (.frz { cls := .type "tuple", data := .seq its.toArray } (.tup xs))) { s with heap := s.heap.push { cls := .type "tuple", data := .seq its.toArray } } :=
  I.laid (t' := s.toks) (fun b ob q => Heap.get?_push_of_some _ q) (Nat.le_refl _) ⟨Heap.get?_push_size _ rfl, hz, its, r, IsTup.new _ _⟩
def tTupF (t : TA) : TE := fun σ H Q => t σ H fun xs H1 => xs.length ≤ sizeLine ∧ ∀ p H', Same H1 H' → H1 p = none → TupAt H' p xs → Q (.ref p) H'
theorem pe_tupF {es : List Expr} {t : TA} {pos : Pos} {x1} (h : PA X es t) : PE X (.Tuple es x1 pos) (tTupF t) := by
  refine ⟨fun pins s σ H Q I hq => ?_⟩
  refine wpAny_Tuple_spliced (thn (h.run pos pins s σ H _ I hq) fun us s1 ⟨xs, H1, I1, r, z, q⟩ => ⟨by rw [← r.length]; exact z, ?_⟩)
  have hf : H1 s1.heap.objs.size = none := I1.hok.fresh (Nat.le_refl _)
  exact ⟨.ref s1.heap.objs.size, _, laid_tup I1 z r, rfl, q _ _ (same_upd hf) hf ⟨_, rfl, upd_same⟩⟩
theorem call_tupleF : CallR X (.type "tuple") (fun xs H Q => ∃ p ys, xs = [.ref p] ∧ ((SqL X.K H p ys ∧ ∀ l H', Same H H' → H l = none → TupAt H' l ys → Q (.ref l) H') ∨ (SqT X.K H p ys ∧ Q (.ref p) H))) := by
  intro pins s σ H xs us Q I r h
  obtain ⟨p, ys, rfl, h⟩ := h
  obtain ⟨u, rfl, rx⟩ := vals1 r
  cases rx
  rcases h with ⟨hq, q⟩ | ⟨hq, q⟩
  · obtain ⟨its, r', pl, hz⟩ := I.list hq
    have hlen := r'.length
    refine call_tuple_list pl.isList (fun h' kp => ?_) (by simp only [List.size_toArray] <;> omega)
    have I1 : Inv X pins σ H { s with heap := h' } := I.kept (t' := s.toks) kp
    have hf := I1.hok.fresh (Nat.le_refl _)
    exact ⟨.ref h'.objs.size, _, laid_tup I1 hz r', rfl, q _ _ (same_upd hf) hf ⟨_, rfl, upd_same⟩⟩
  · obtain ⟨its, r', pl, hz⟩ := I.tuple hq
    exact call_tuple_same pl ⟨.ref p, H, I, rfl, q⟩
def rSlM : V → Option Int → Option Int → Hp → VK → Prop := fun x lo hi H Q => ∃ a xs, x = .ref a ∧ TupAt H a xs ∧ ∀ t H', Same H H' → TupAt H' t (cutV xs lo hi) → Q (.ref t) H'
theorem sl_tupM : SlR X rSlM := by
  intro pins s σ H x v vl vu lo hi sl Q I rx hs pl pu h
  obtain ⟨a, xs, rfl, ha, q⟩ := h
  by_cases hw : HT.sIx xs.length 0 lo = 0 ∧ HT.sIx xs.length xs.length hi = xs.length
  · exact sl_tupA pins s σ H _ v vl vu lo hi sl Q I rx hs pl pu ⟨a, xs, rfl, ha.sq, fun _ => q a H (Same.refl H) (by rw [cutV_whole hw]; exact ha), fun z => absurd hw z⟩
  · cases rx
    obtain ⟨its, r, ht, hz⟩ := I.tuple (ha.sq (K := X.K))
    have hlen : its.toArray.size = xs.length := by rw [List.size_toArray]; exact r.length.symm
    refine ⟨"tuple", _, PyProof.Rows.slot_tuple_getitem.lookup, ht.typeIs, ?_⟩
    refine HT.getItem_tuple_cut ht hs pl pu (by rw [hlen]; exact hw) ?_ (by rw [hlen]; exact hz)
    rw [hlen]
    have hf : H s.heap.objs.size = none := I.hok.fresh (Nat.le_refl _)
    exact ⟨.ref s.heap.objs.size, _, laid_tup (xs := cutV xs lo hi) I (Nat.le_trans (cutV_length xs lo hi) hz) ((r.drop (HT.sIx xs.length 0 lo)).take (HT.sIx xs.length xs.length hi - HT.sIx xs.length 0 lo)), rfl, q _ _ (same_upd hf) ⟨_, rfl, upd_same⟩⟩
def rCatM : R2 := fun x y H Q => ∃ a b xs ys, x = .ref a ∧ y = .ref b ∧ TupAt H a xs ∧ TupAt H b ys ∧ xs.length + ys.length ≤ sizeLine ∧ ∀ t H', Same H H' → TupAt H' t (xs ++ ys) → Q (.ref t) H'
theorem op_catM : OpR X (binaryOp .Add) rCatM := by
  intro pins s σ H x y v u Q I rx ry h
  obtain ⟨a, b, xs, ys, rfl, rfl, ha, hb, hz, q⟩ := h
  cases rx
  cases ry
  obtain ⟨its, r1, p1, _⟩ := I.tuple (ha.sq (K := X.K))
  obtain ⟨its2, r2, p2, _⟩ := I.tuple (hb.sq (K := X.K))
  by_cases hx : xs = []
  · subst hx
    cases r1
    exact cat_tup0 p1 p2 ⟨.ref b, H, I, rfl, q b H (Same.refl H) hb⟩
  · refine HT.cat_tup p1 p2 (fun z => hx (r1.nil_iff.mp z)) (fun z => ⟨.ref a, H, I, rfl, q a H (Same.refl H) ?_⟩) (fun z => ?_) (by rw [← r1.length, ← r2.length]; exact hz)
    · rw [r2.nil_iff.mp z, List.append_nil]
      exact ha
    · have hf : H s.heap.objs.size = none := I.hok.fresh (Nat.le_refl _)
      exact ⟨.ref s.heap.objs.size, _, laid_tup (xs := xs ++ ys) I (by rw [List.length_append]; exact hz) (r1.append r2), rfl, q _ _ (same_upd hf) ⟨_, rfl, upd_same⟩⟩
/-- o.m(e, ..) of such a tuple -/
def tBMT (r : V → List V → Hp → VK → Prop) (to : TE) (t : TA) : TE := fun σ H Q => to σ H fun x H1 => (∃ a xs, x = .ref a ∧ TupAt H1 a xs) ∧ t σ H1 fun xs H2 => r x xs H2 Q
theorem pe_bmT {o e : Expr} {es : List Expr} {to : TE} {t : TA} {name : Str} {apos cpos : Pos} {id : String} {r : V → List V → Hp → VK → Prop} (slot : Slot "tuple" name id) (hty : typeOf (.builtin id) = pure (.type "method_descriptor")) (hm : MtR X id r) (ho : PE X o to) (ha : PA X (e :: es) t)
    (hbase : attributeBase o name X.env (eval o X.env) = eval o X.env := by rfl)
    (hfew : ((backTo cpos (starEach (e :: es) X.env)).all (fun x => !x.1) && (backToKw cpos (keywordEach [] X.env)).all (fun x => x.1.isSome)
      && decide ((e :: es).length + ([] : List Keyword).length + (if ([] : List Keyword).isEmpty then 0 else 1) < 30)) = true := by rfl)
    (hline : (apos.endLine == cpos.line) = true := by rfl) (hs : starEach (e :: es) X.env = (false, eval e X.env) :: starEach es X.env := by rfl) (hplain : (backTo cpos (starEach es X.env)).any (·.1) = false := by rfl) :
    PE X (.Call (.Attribute o name apos) (e :: es) [] cpos) (tBMT r to t) := by
  refine ⟨fun pins s σ H Q I h => ?_⟩
  refine wpAny_Call_method_late hbase hfew hline rfl (thn (ho.run pins s σ H _ I h) fun v s1 ⟨x, H1, I1, r1, ty, q1⟩ => ?_)
  obtain ⟨a, xs, ea, oo, hd, hH⟩ := ty
  subst ea
  cases r1
  obtain ⟨g1, g2⟩ := I1.hok _ _ hH
  obtain ⟨_, its, rv, o', g3, g4, _⟩ := g2
  have h1 : s1.TypeIs (.ref a) "tuple" := ⟨o', g3, g4⟩
  have h2 : ∀ b, Value.ref a = .ref b → ∃ ob, s1.heap.get? b = some ob ∧ ob.dict = none := fun b eb => by
    cases eb
    exact ⟨oo, g1, hd⟩
  refine ⟨"tuple", id, PySem.F.plainAttrs_tuple, slot, hty, h1, h2, ?_⟩
  have hA := ha.run cpos pins s1 σ H1 _ I1 q1
  rw [hs] at hA ⊢
  refine Calls.callWith_builtin (by show (false || (backTo cpos (starEach es X.env)).any (·.1)) = false; rw [hplain] <;> rfl) (Calls.evalArgs_plain ?_)
  exact thn hA fun us s2 ⟨vs, H2, I2, r2, q2⟩ => hm pins s2 σ H2 (.ref a) vs (.ref a) us Q I2 rfl r2 q2
/-- a list of texts != [] -/
def rNeNil : R2 := fun x y H Q => ∃ (a b : Addr) (ys : List Str), x = .ref a ∧ y = .ref b ∧ H a = some (.lst (ys.map V.str)) ∧ H b = some (.lst []) ∧ Goods ys ∧ Q (.bl (!decide (ys = []))) H
theorem op_neNil (hu : X.A.units + 64 < cLine) : OpR X (compareOp .NotEq) rNeNil := by
  intro pins s σ H x y v u Q I rx ry h
  obtain ⟨a, b, ys, rfl, rfl, ha, hb, hg, q⟩ := h
  refine op_neD hu pins s σ H _ _ v u Q I rx ry ⟨_, _, dp_list ha, dp_list (xs := []) hb, sh_list hg, sh_list (xs := []) (fun _ h => nomatch h), ?_⟩
  have e : PyData.eqv (.list (ys.map .str)) (.list (([] : List Str).map .str)) = decide (ys = []) := by
    rw [PyData.eqv, eqv_strs]
  rw [e]
  exact q
/-- two tuples of texts -/
def rEqT : R2 := fun x y H Q => ∃ (a b : Addr) (xs ys : List Str), x = .ref a ∧ y = .ref b ∧ TupAt H a (xs.map V.str) ∧ TupAt H b (ys.map V.str) ∧ Goods xs ∧ Goods ys ∧ Q (.bl (decide (xs = ys))) H
theorem op_eqT (hu : X.A.units + 64 < cLine) : OpR X (compareOp .Eq) rEqT := by
  intro pins s σ H x y v u Q I rx ry h
  obtain ⟨a, b, xs, ys, rfl, rfl, ha, hb, g1, g2, q⟩ := h
  refine op_eqD hu pins s σ H _ _ v u Q I rx ry ⟨_, _, .tup ha.sq (dp_strs xs), .tup hb.sq (dp_strs ys), sh_tuple g1, sh_tuple g2, ?_⟩
  have e : PyData.eqv (.tuple (xs.map .str)) (.tuple (ys.map .str)) = decide (xs = ys) := by
    rw [PyData.eqv, eqv_strs]
  rw [e]
  exact q
end

/-! ### a row: a tuple or a list of names -/
def RowAt (H : Hp) (a : Addr) (row : List Str) : Prop := TupAt H a (row.map V.str) ∨ H a = some (.lst (row.map V.str))
theorem RowAt.same {H H' : Hp} {a : Addr} {row : List Str} (s : Same H H') (h : RowAt H a row) : RowAt H' a row := h.elim (fun e => .inl (e.same s)) (fun e => .inr (s _ _ e))

/-! ### where one comes to -/
def lastP {α : Type} (p : α → Bool) : List α → Option Nat
  | [] => none
  | x :: r => match lastP p r with
    | some k => some (k + 1)
    | none => if p x then some 0 else none
theorem lastP_app {α : Type} (p : α → Bool) (x : α) : ∀ l : List α, lastP p (l ++ [x]) = if p x then some l.length else lastP p l
  | [] => by simp [lastP]
  | y :: l => by
    show (match lastP p (l ++ [x]) with | some k => some (k + 1) | none => if p y then some 0 else none) = _
    rw [lastP_app p x l]
    by_cases h : p x = true
    · rw [if_pos h, if_pos h]
      rfl
    · rw [if_neg h, if_neg h]
      rfl
theorem lastP_take {α : Type} (p : α → Bool) {xs : List α} {i : Nat} {x : α} (h : xs[i]? = some x) : lastP p (xs.take (i + 1)) = if p x then some i else lastP p (xs.take i) := by
  have hi : i < xs.length := (List.getElem?_eq_some_iff.mp h).1
  rw [List.take_add_one, h]
  show lastP p (xs.take i ++ [x]) = _
  rw [lastP_app, List.length_take, Nat.min_eq_left (Nat.le_of_lt hi)]
theorem lastP_some {α : Type} {p : α → Bool} : ∀ {l : List α} {k : Nat}, lastP p l = some k → ∃ x, l[k]? = some x ∧ p x = true ∧ ∀ j y, k < j → l[j]? = some y → p y = false
  | [], k, h => by cases h
  | x :: r, k, h => by
    unfold lastP at h
    cases e : lastP p r with
    | some j =>
      rw [e] at h
      have hk : j + 1 = k := Option.some.inj h
      subst hk
      obtain ⟨y, h1, h2, h3⟩ := lastP_some e
      refine ⟨y, h1, h2, fun j' z hj hz => ?_⟩
      match j', hj, hz with
      | j' + 1, hj, hz => exact h3 j' z (by omega) hz
    | none =>
      rw [e] at h
      by_cases hx : p x = true
      · simp only [hx, if_true] at h
        have hk : 0 = k := Option.some.inj h
        subst hk
        refine ⟨x, rfl, hx, fun j' z hj hz => ?_⟩
        match j', hj, hz with
        | j' + 1, hj, hz => exact lastP_none e j' z hz
      · simp only [hx] at h
        cases h
where lastP_none {α : Type} {p : α → Bool} : ∀ {l : List α}, lastP p l = none → ∀ (j : Nat) (y : α), l[j]? = some y → p y = false
  | [], _, j, y, h => by simp at h
  | x :: r, e, j, y, h => by
    unfold lastP at e
    cases e2 : lastP p r with
    | some k => rw [e2] at e; cases e
    | none =>
      rw [e2] at e
      by_cases hx : p x = true
      · simp only [hx, if_true] at e
        cases e
      · match j, h with
        | 0, h =>
          have : x = y := Option.some.inj h
          subst this
          exact Bool.eq_false_iff.mpr hx
        | j + 1, h => exact lastP_none e2 j y h
theorem lastP_nil {α : Type} {p : α → Bool} : ∀ {l : List α}, lastP p l = none ↔ l.filter p = []
  | [] => by simp [lastP]
  | x :: r => by
    have ih := lastP_nil (p := p) (l := r)
    unfold lastP
    cases e : lastP p r with
    | some k =>
      have : ¬ r.filter p = [] := fun z => by rw [ih.mpr z] at e; cases e
      rw [List.filter_cons]
      by_cases hx : p x = true
      · simp [hx]
      · simp [hx, this]
    | none =>
      have z := ih.mp e
      rw [List.filter_cons, z]
      by_cases hx : p x = true
      · simp [hx]
      · simp [hx]
theorem Goods.perm {xs ys : List Str} (h : Goods xs) (p : ys.Perm xs) : Goods ys := fun x hx => h x (p.mem_iff.mp hx)
theorem Goods.at_ {xs : List Str} {i : Nat} {x : Str} (h : Goods xs) (e : xs[i]? = some x) : Good x := h x (List.mem_of_getElem? e)
theorem Goods.filter {xs : List Str} {p : Str → Bool} (h : Goods xs) : Goods (xs.filter p) := fun x hx => h x (List.mem_filter.mp hx).1
def spotOf (ps : List (Str × Str)) (stand : List Str) (x : Str) : Nat := match lastP (frd ps x) stand with
  | some k => k + 1
  | none => stand.length
def comeTo (ps : List (Str × Str)) (stand : List Str) (x : Str) : List Str := stand.take (spotOf ps stand x) ++ [x] ++ stand.drop (spotOf ps stand x)
def standOf (ps : List (Str × Str)) (order : List Str) : List Str := order.foldl (comeTo ps) []
theorem come_perm (ps : List (Str × Str)) (stand : List Str) (x : Str) : (comeTo ps stand x).Perm (x :: stand) := ins_perm _ _ _
theorem standOf_app (ps : List (Str × Str)) (o : List Str) (x : Str) : standOf ps (o ++ [x]) = comeTo ps (standOf ps o) x := by
  unfold standOf
  rw [List.foldl_append]
  rfl
theorem stand_perm_from (ps : List (Str × Str)) : ∀ (o stand : List Str), (o.foldl (comeTo ps) stand).Perm (o ++ stand)
  | [], stand => List.Perm.refl _
  | x :: o, stand => by
    show (o.foldl (comeTo ps) (comeTo ps stand x)).Perm _
    refine (stand_perm_from ps o _).trans ?_
    refine ((come_perm ps stand x).append_left o).trans ?_
    exact List.perm_middle
theorem stand_perm (ps : List (Str × Str)) (o : List Str) : (standOf ps o).Perm o := by
  have h := stand_perm_from ps o []
  rw [List.append_nil] at h
  exact h

/-! ### promises -/
def spAre : Sp := fun vs H Q _ => ∃ (a : Addr) (ps : List (Str × Str)) (x y : Str), vs = [.ref a, .str x, .str y] ∧ PalsAt H a ps ∧ PalsOk ps ∧ Good x ∧ Good y ∧ ∀ H', Same H H' → Q (.bl (frd ps x y)) H'
def spCome : Sp := fun vs H Q _ => ∃ (a t : Addr) (ps : List (Str × Str)) (stand : List Str) (x : Str), vs = [.ref a, .ref t, .str x] ∧ PalsAt H a ps ∧ PalsOk ps ∧ TupAt H t (stand.map V.str) ∧ Goods stand ∧ Good x ∧ stand.length ≤ 100 ∧
  ∀ t' H', Same H H' → TupAt H' t' ((comeTo ps stand x).map V.str) → Q (.ref t') H'
def spStandOf : Sp := fun vs H Q _ => ∃ (a l : Addr) (ps : List (Str × Str)) (some_ : List Str), vs = [.ref a, .ref l] ∧ PalsAt H a ps ∧ PalsOk ps ∧ H l = some (.lst (some_.map V.str)) ∧ Goods some_ ∧ some_.length ≤ 100 ∧
  ∀ t' H', Same H H' → TupAt H' t' ((standOf ps some_).map V.str) → Q (.ref t') H'
def spStrewn : Sp := fun vs H Q _ => ∃ (b l : Addr) (pool : List Str), vs = [.ref b, .ref l] ∧ IsBox H b ∧ RowAt H l pool ∧ pool.length ≤ 100 ∧
  ∀ (p : Addr) (order : List Str) (H' : Hp), Oth b H H' → IsBox H' b → H p = none → H' p = some (.lst (order.map V.str)) → order.Perm pool → Q (.ref p) H'
def spThinned : Sp := fun vs H Q _ => ∃ (t : Addr) (stand : List Str) (x : Str), vs = [.ref t, .str x] ∧ TupAt H t (stand.map V.str) ∧ stand.length ≤ 100 ∧
  ∀ t' H', Same H H' → TupAt H' t' ((stand.filter fun y => !decide (y = x)).map V.str) → Q (.ref t') H'
def spFine : Sp := fun vs H Q _ => ∃ (b a l : Addr) (ps : List (Str × Str)) (pool : List Str), vs = [.ref b, .ref a, .ref l] ∧ IsBox H b ∧ PalsAt H a ps ∧ PalsOk ps ∧ H l = some (.lst (pool.map V.str)) ∧ Goods pool ∧ pool.length ≤ 100 ∧
  ∀ (t : Addr) (order : List Str) (H' : Hp), Oth b H H' → IsBox H' b → TupAt H' t ((standOf ps order).map V.str) → order.Perm pool → Q (.ref t) H'
def spAny : Sp := fun vs H Q _ => ∃ (b a l : Addr) (ps : List (Str × Str)) (pool : List Str), vs = [.ref b, .ref a, .ref l] ∧ IsBox H b ∧ PalsAt H a ps ∧ PalsOk ps ∧ H l = some (.lst (pool.map V.str)) ∧ Goods pool ∧ pool.Nodup ∧ pool.length ≤ 100 ∧
  ∀ (t : Addr) (stand : List Str) (H' : Hp), Oth b H H' → IsBox H' b → TupAt H' t (stand.map V.str) → stand.Perm pool → Q (.ref t) H'
end Lk
set_option maxRecDepth 100000
set_option maxHeartbeats 4000000
namespace Lk
open PySem PySem.Spec PyProof.Rows L2
/-- a tuple that is tracked, either way -/
def TupX (H : Hp) (a : Addr) (xs : List V) : Prop := H a = some (.tup xs) ∨ TupAt H a xs
theorem TupX.same {H H' : Hp} {a : Addr} {xs : List V} (s : Same H H') (h : TupX H a xs) : TupX H' a xs := h.elim (fun e => .inl (s _ _ e)) (fun e => .inr (e.same s))
theorem TupX.sq {K : PySem.W.Frag} {H : Hp} {a : Addr} {xs : List V} (h : TupX H a xs) : SqT K H a xs := h.elim (fun e => .inl (.inl e)) (fun e => e.sq)
theorem TupX.ty {K : PySem.W.Frag} {H : Hp} {a : Addr} {xs : List V} (h : TupX H a xs) : TyX K H (.ref a) (.type "tuple") := h.elim (fun e => .base (.tup e)) (fun ⟨_, _, e⟩ => .fTuple e)
/-- two values that _law_same tells to be the same: scalars, lists, tuples, at most n deep -/
def Alk (H : Hp) : Nat → V → V → Prop
  | 0, _, _ => False
  | n + 1, x, y => ((x = .non ∨ (∃ b, x = .bl b) ∨ (∃ i, x = .int i) ∨ ∃ z, x = .str z) ∧ y = x) ∨
    (∃ a b xs ys, x = .ref a ∧ y = .ref b ∧ H a = some (.lst xs) ∧ H b = some (.lst ys) ∧ xs.length = ys.length ∧ xs.length ≤ 1000 ∧ ∀ (i : Nat) (u v : V), xs[i]? = some u → ys[i]? = some v → Alk H n u v) ∨
    (∃ a b xs ys, x = .ref a ∧ y = .ref b ∧ TupX H a xs ∧ TupX H b ys ∧ xs.length = ys.length ∧ xs.length ≤ 1000 ∧ ∀ (i : Nat) (u v : V), xs[i]? = some u → ys[i]? = some v → Alk H n u v)
theorem Alk.same {H H' : Hp} (s : Same H H') : ∀ {n : Nat} {x y : V}, Alk H n x y → Alk H' n x y
  | 0, _, _, h => h.elim
  | n + 1, x, y, h => by
    rcases h with h | ⟨a, b, xs, ys, e1, e2, h1, h2, hl, hz, h⟩ | ⟨a, b, xs, ys, e1, e2, h1, h2, hl, hz, h⟩
    · exact .inl h
    · exact .inr (.inl ⟨a, b, xs, ys, e1, e2, s _ _ h1, s _ _ h2, hl, hz, fun i u v hu hv => Alk.same s (h i u v hu hv)⟩)
    · exact .inr (.inr ⟨a, b, xs, ys, e1, e2, h1.same s, h2.same s, hl, hz, fun i u v hu hv => Alk.same s (h i u v hu hv)⟩)
theorem alk_str {H : Hp} {n : Nat} (z : Str) : Alk H (n + 1) (.str z) (.str z) := .inl ⟨.inr (.inr (.inr ⟨z, rfl⟩)), rfl⟩
theorem alk_strsL {H : Hp} {n : Nat} {a b : Addr} {xs : List Str} (h1 : H a = some (.lst (xs.map V.str))) (h2 : H b = some (.lst (xs.map V.str))) (hz : xs.length ≤ 1000) : Alk H (n + 2) (.ref a) (.ref b) :=
  .inr (.inl ⟨a, b, _, _, rfl, rfl, h1, h2, rfl, by rw [List.length_map]; exact hz, fun i u v hu hv => by
    rw [hu] at hv
    cases hv
    obtain ⟨z, _, rfl⟩ := at_map hu
    exact alk_str z⟩)
theorem alk_strsT {H : Hp} {n : Nat} {a b : Addr} {xs : List Str} (h1 : TupX H a (xs.map V.str)) (h2 : TupX H b (xs.map V.str)) (hz : xs.length ≤ 1000) : Alk H (n + 2) (.ref a) (.ref b) :=
  .inr (.inr ⟨a, b, _, _, rfl, rfl, h1, h2, rfl, by rw [List.length_map]; exact hz, fun i u v hu hv => by
    rw [hu] at hv
    cases hv
    obtain ⟨z, _, rfl⟩ := at_map hu
    exact alk_str z⟩)
theorem alk_list2 {H : Hp} {n : Nat} {a b : Addr} {x1 x2 y1 y2 : V} (h1 : H a = some (.lst [x1, x2])) (h2 : H b = some (.lst [y1, y2])) (k1 : Alk H n x1 y1) (k2 : Alk H n x2 y2) : Alk H (n + 1) (.ref a) (.ref b) :=
  .inr (.inl ⟨a, b, _, _, rfl, rfl, h1, h2, rfl, by show 2 ≤ 1000; decide, fun i u v hu hv => by
    match i, hu, hv with
    | 0, hu, hv => cases hu; cases hv; exact k1
    | 1, hu, hv => cases hu; cases hv; exact k2⟩)
def spSame (n : Nat) : Sp := fun vs H Q _ => ∃ x y, vs = [x, y] ∧ Alk H n x y ∧ ∀ H', Same H H' → Q (.bl true) H'
theorem walk_zipT {K : PySem.W.Frag} {a b : Addr} {xs ys : List V} {n : Nat} (hn : n = min xs.length ys.length) : Walk (RZ.ItzT K a b) n (fun H => SqT K H a xs ∧ SqT K H b ys) (YPair (fun i => xs[i]?) (fun i => ys[i]?)) := by
  subst hn
  refine ⟨fun i _ hi q => ?_, fun _ q => ⟨xs, ys, q.1, q.2, by omega⟩, fun i H v H' _ q y => ?_⟩
  · have h1 : i < xs.length := by omega
    have h2 : i < ys.length := by omega
    exact ⟨xs, ys, xs[i], ys[i], q.1, q.2, by simp [h1], by simp [h2]⟩
  · obtain ⟨T, x, z, h1, h2, h3, h4, h5⟩ := y
    exact ⟨T, x, z, h1, h2, h3, h4 xs q.1, h5 ys q.2⟩
end Lk
set_option maxRecDepth 100000
set_option maxHeartbeats 4000000
namespace Lk
open PySem PySem.Spec PyProof.Rows L2

/-! ### the dict of friends, either way about -/
def k2 (a b : Str) : List Key := [Sum.inr a, Sum.inr b]
theorem k2_inj {a b c d : Str} : k2 a b = k2 c d ↔ a = c ∧ b = d := by
  unfold k2
  simp
def KnAt (H : Hp) (d : Addr) (ps : List (Str × Str)) : Prop := ∃ kvs, H d = some (.dT kvs) ∧ ∀ a b, (valV kvs (k2 a b)).isSome = frd ps a b
theorem KnAt.same {H H' : Hp} {d : Addr} {ps : List (Str × Str)} (s : Same H H') (h : KnAt H d ps) : KnAt H' d ps := by
  obtain ⟨kvs, h1, h2⟩ := h
  exact ⟨kvs, s _ _ h1, h2⟩
theorem putK_len {kvs : List (List Key × V)} {k : List Key} {v : V} : (putK kvs k v).length ≤ kvs.length + 1 := by
  unfold putK
  split
  · rw [List.length_map]
    omega
  · rw [List.length_append]
    exact Nat.le_refl _
theorem frd_app (ps : List (Str × Str)) (p : Str × Str) (a b : Str) : frd (ps ++ [p]) a b = (frd ps a b || decide ((a, b) = p) || decide ((b, a) = p)) := by
  unfold frd
  by_cases h1 : (a, b) ∈ ps <;> by_cases h2 : (b, a) ∈ ps <;> by_cases h3 : (a, b) = p <;> by_cases h4 : (b, a) = p <;> simp [h1, h2, h3, h4]
theorem both_put {kvs : List (List Key × V)} {ps : List (Str × Str)} (h : ∀ a b, (valV kvs (k2 a b)).isSome = frd ps a b) (x y : Str) (u v : V) (a b : Str) :
    (valV (putK (putK kvs (k2 x y) u) (k2 y x) v) (k2 a b)).isSome = frd (ps ++ [(x, y)]) a b := by
  rw [valV_put, valV_put, frd_app, ← h a b]
  by_cases h1 : k2 a b = k2 y x
  · rw [if_pos h1]
    obtain ⟨e1, e2⟩ := k2_inj.mp h1
    subst e1 e2
    simp
  · rw [if_neg h1]
    have n1 : ¬ (b, a) = (x, y) := fun z => h1 (k2_inj.mpr ⟨(Prod.mk.inj z).2, (Prod.mk.inj z).1⟩)
    by_cases h2 : k2 a b = k2 x y
    · rw [if_pos h2]
      obtain ⟨e1, e2⟩ := k2_inj.mp h2
      subst e1 e2
      simp
    · rw [if_neg h2]
      have n2 : ¬ (a, b) = (x, y) := fun z => h2 (k2_inj.mpr ⟨(Prod.mk.inj z).1, (Prod.mk.inj z).2⟩)
      simp [n1, n2]

/-! ### places, words -/
def lfpV : Option Nat → V
  | none => .non
  | some k => .int k
theorem inV_strs (x : Str) (xs : List Str) : inV (.str x) (xs.map V.str) = decide (x ∈ xs) := by
  unfold inV
  rw [List.any_map]
  induction xs with
  | nil => rfl
  | cons y r ih =>
    rw [List.any_cons, ih]
    show ((y == x) || _) = _
    by_cases h : y = x
    · subst h
      simp
    · have h' : ¬ x = y := fun z => h z.symm
      simp [h, h']
theorem lastP_lt {α : Type} {p : α → Bool} {l : List α} {k : Nat} (h : lastP p l = some k) : k < l.length := by
  obtain ⟨x, hx, _⟩ := lastP_some h
  exact (List.getElem?_eq_some_iff.mp hx).1
/-! ### index -/
section
variable {X : Cx}
end
theorem nd_first {row : List Str} {i : Nat} {x : Str} (hd : row.Nodup) (h : row[i]? = some x) : ∀ m, m < i → row[m]? ≠ some x := fun m hm e => by
  have := nd_ix hd h e
  omega

/-! ### promises of the program -/
def spBoth : Sp := fun vs H Q _ => ∃ (a : Addr) (ps : List (Str × Str)), vs = [.ref a] ∧ FrAt H a ps ∧ ps.length ≤ 1000 ∧ ∀ d H', Same H H' → H d = none → KnAt H' d ps → Q (.ref d) H'
def spLfp : Sp := fun vs H Q _ => ∃ (d r : Addr) (ps : List (Str × Str)) (row : List Str) (who : Str), vs = [.ref d, .ref r, .str who] ∧ KnAt H d ps ∧ RowAt H r row ∧ row.length ≤ 100 ∧
  ∀ H', Same H H' → Q (lfpV (lastP (frd ps who) row)) H'
/-! ### .. and of the law's own words -/
def spRight : Sp := fun vs H Q _ => ∃ b : Addr, vs = [.ref b] ∧ IsBox H b ∧ ∀ H', Oth b H H' → Q (.bl true) H'
def spLaw (K : PySem.W.Frag) : Sp := fun vs H Q _ => ∃ (a : Addr) (ns : List Int), vs = [.ref a] ∧ SqL K H a (ns.map V.int) ∧ ns.length ≤ 63 ∧ ∀ H', Q (.bl true) H'
/-! ### calls by keywords that stand in the parameters' order turned about -/
theorem vals_rev : ∀ {xs : List V} {us : List Value}, Vals xs us → Vals xs.reverse us.reverse
  | _, _, .nil => .nil
  | _, _, .cons r t => by
    rw [List.reverse_cons, List.reverse_cons]
    exact (vals_rev t).append (.cons r .nil)
/-- no positional ones, the keywords turned about -/
def gRev {α : Type} : List α → List α → List α
  | [], ws => ws.reverse
  | _ :: _, _ => []
theorem kbinds_rev {K : PySem.W.Frag} {x qual : Str} {st : Stmt} {f : Addr} {fd : FuncData} {ps ks : List Str} (F : Fun K x qual st f fd) (hp : ps ≠ [])
    (h : ∀ (kV doc pm : Value) (an : Option Addr) (cdv ct : Value) (ws : List Value), ws.length = ps.length → bindArgs (PySem.W.fnOf x qual (defArgs st) (defBody st) (defScope st) .none kV doc pm an cdv ct) ⟨[], ks.zip ws⟩ = pure (ps.zip ws.reverse)) :
    KBinds K fd ps ks gRev gRev := by
  obtain ⟨oc, od, kV, doc, pm, an, cdv, ct, osl, rfl, lk, hcd⟩ := F.ex
  refine ⟨fun s us ws _ hl => ?_, fun {vs us zs ws} r1 r2 => ?_⟩
  · cases us with
    | nil =>
      have hl' : ws.reverse.length = ps.length := hl
      rw [List.length_reverse] at hl'
      exact .of_eq (h kV doc pm an cdv ct ws hl')
    | cons u us =>
      have hl' : 0 = ps.length := hl
      exact absurd (List.length_eq_zero_iff.mp hl'.symm) hp
  · cases r1 with
    | nil => exact vals_rev r2
    | cons _ _ => exact .nil
end Lk
set_option maxRecDepth 100000
set_option maxHeartbeats 4000000
namespace Lk
open PySem PySem.Spec PyProof.Rows L2

/-! ### who can have come last -/
theorem lastP_append {α : Type} (p : α → Bool) (b : List α) : ∀ a : List α, lastP p (a ++ b) = match lastP p b with | some k => some (a.length + k) | none => lastP p a
  | [] => by
    show lastP p b = _
    cases lastP p b with
    | none => rfl
    | some k => simp
  | x :: a => by
    have ih := lastP_append p b a
    show (match lastP p (a ++ b) with | some k => some (k + 1) | none => if p x then some 0 else none) = _
    rw [ih]
    cases lastP p b with
    | none => rfl
    | some k =>
      show some (a.length + k + 1) = some ((x :: a).length + k)
      rw [List.length_cons]
      congr 1
      omega
/-- the one at place i is loose -/
def looseB (ps : List (Str × Str)) (row : List Str) (i : Nat) (x : Str) : Bool := match lastP (frd ps x) row with
  | none => decide (i + 1 = row.length)
  | some k => decide (k + 1 = i)
theorem split_at {α : Type} {row : List α} {i : Nat} {x : α} (h : row[i]? = some x) : row = row.take i ++ x :: row.drop (i + 1) := by
  have hi : i < row.length := (List.getElem?_eq_some_iff.mp h).1
  have e := List.getElem?_eq_getElem hi
  rw [h] at e
  have e2 : x = row[i] := Option.some.inj e
  rw [e2, ← List.drop_eq_getElem_cons hi, List.take_append_drop]
theorem ins_eq {α : Type} {a b : List α} {x : α} {s : Nat} (hx : x ∉ a ++ b) (hs : s ≤ (a ++ b).length) (h : (a ++ b).take s ++ [x] ++ (a ++ b).drop s = a ++ x :: b) : s = a.length := by
  have e1 : ((a ++ b).take s ++ [x] ++ (a ++ b).drop s)[s]? = some x := by
    rw [List.append_assoc, List.getElem?_append_right (by rw [List.length_take]; omega), List.length_take, Nat.min_eq_left hs, Nat.sub_self]
    rfl
  rw [h] at e1
  by_cases h1 : s < a.length
  · rw [List.getElem?_append_left h1] at e1
    exact absurd (List.mem_append_left b (List.mem_of_getElem? e1)) hx
  · rw [List.getElem?_append_right (by omega)] at e1
    cases h2 : s - a.length with
    | zero => omega
    | succ m =>
      rw [h2, List.getElem?_cons_succ] at e1
      exact absurd (List.mem_append_right a (List.mem_of_getElem? e1)) hx
theorem loose_iff {ps : List (Str × Str)} {row : List Str} {i : Nat} {x : Str} (hd : row.Nodup) (h : row[i]? = some x) (irr : frd ps x x = false) :
    decide (comeTo ps (row.take i ++ row.drop (i + 1)) x = row) = looseB ps row i x := by
  have hi : i < row.length := (List.getElem?_eq_some_iff.mp h).1
  have sp := split_at h
  generalize ha : row.take i = a at sp
  generalize hb : row.drop (i + 1) = b at sp
  have la : a.length = i := by
    rw [← ha, List.length_take]
    omega
  have nx : x ∉ a ++ b := by
    rw [sp] at hd
    have q : (x :: (a ++ b)).Nodup := (List.perm_middle.nodup_iff).mp hd
    exact (List.nodup_cons.mp q).1
  have lr : row.length = a.length + b.length + 1 := by
    rw [sp, List.length_append, List.length_cons]
    omega
  have key : comeTo ps (a ++ b) x = row ↔ spotOf ps (a ++ b) x = i := by
    constructor
    · intro e
      rw [← la]
      refine ins_eq (s := spotOf ps (a ++ b) x) nx ?_ (e.trans sp)
      unfold spotOf
      split
      · rename_i k ek
        have := lastP_lt ek
        omega
      · exact Nat.le_refl _
    · intro e
      unfold comeTo
      rw [e, ← la, List.take_left' rfl, List.drop_left' rfl, List.append_assoc]
      exact sp.symm
  have e1 : lastP (frd ps x) (x :: b) = (lastP (frd ps x) b).map (· + 1) := by
    show (match lastP (frd ps x) b with | some k => some (k + 1) | none => if frd ps x x then some 0 else none) = _
    rw [irr]
    cases lastP (frd ps x) b <;> rfl
  have e2 : lastP (frd ps x) row = match lastP (frd ps x) (x :: b) with | some k => some (a.length + k) | none => lastP (frd ps x) a := by
    rw [← lastP_append, ← sp]
  have e3 := lastP_append (frd ps x) b a
  rw [e1] at e2
  have fin : (spotOf ps (a ++ b) x = i) ↔ looseB ps row i x = true := by
    unfold looseB spotOf
    rw [e2, e3]
    cases lastP (frd ps x) b with
    | some k =>
      show (a.length + k + 1 = i) ↔ decide (a.length + (k + 1) + 1 = i) = true
      rw [decide_eq_true_eq]
      omega
    | none =>
      cases lastP (frd ps x) a with
      | some k =>
        show (k + 1 = i) ↔ decide (k + 1 = i) = true
        rw [decide_eq_true_eq]
      | none =>
        show ((a ++ b).length = i) ↔ decide (i + 1 = row.length) = true
        rw [decide_eq_true_eq, List.length_append]
        omega
  cases c : looseB ps row i x with
  | true => exact decide_eq_true (key.mpr (fin.mpr c))
  | false => exact decide_eq_false (fun z => by rw [fin.mp (key.mp z)] at c; cases c)
/-- all that are loose, in the row's order -/
def looseL (ps : List (Str × Str)) (row : List Str) : List Str := (row.zipIdx.filter fun p => looseB ps row p.2 p.1).map (·.1)
def looseTo (ps : List (Str × Str)) (row : List Str) (n : Nat) : List Str := ((row.zipIdx.take n).filter fun p => looseB ps row p.2 p.1).map (·.1)
theorem looseTo_step {ps : List (Str × Str)} {row : List Str} {i : Nat} {x : Str} (h : row[i]? = some x) : looseTo ps row (i + 1) = looseTo ps row i ++ if looseB ps row i x = true then [x] else [] := by
  have e : row.zipIdx[i]? = some (x, i) := by
    rw [List.getElem?_zipIdx, h]
    simp
  unfold looseTo
  rw [List.take_add_one, e, List.filter_append, List.map_append]
  show _ ++ List.map (·.1) (List.filter _ [(x, i)]) = _
  rw [List.filter_cons, List.filter_nil]
  show _ ++ List.map (·.1) (if looseB ps row i x = true then [(x, i)] else []) = _
  by_cases c : looseB ps row i x = true
  · rw [if_pos c, if_pos c]
    rfl
  · rw [if_neg c, if_neg c]
    rfl
theorem looseTo_all (ps : List (Str × Str)) (row : List Str) : looseTo ps row row.length = looseL ps row := by
  unfold looseTo looseL
  rw [List.take_of_length_le (by rw [List.length_zipIdx]; exact Nat.le_refl _)]
theorem looseTo_len (ps : List (Str × Str)) (row : List Str) (n : Nat) : (looseTo ps row n).length ≤ row.length := by
  unfold looseTo
  rw [List.length_map]
  refine Nat.le_trans (List.length_filter_le _ _) ?_
  rw [List.length_take, List.length_zipIdx]
  omega
theorem looseL_mem {ps : List (Str × Str)} {row : List Str} {i : Nat} {x : Str} (hd : row.Nodup) (h : row[i]? = some x) : decide (x ∈ looseL ps row) = looseB ps row i x := by
  unfold looseL
  have e : (x ∈ (row.zipIdx.filter fun p => looseB ps row p.2 p.1).map (·.1)) ↔ looseB ps row i x = true := by
    constructor
    · intro m
      obtain ⟨⟨y, j⟩, hp, rfl⟩ := List.mem_map.mp m
      obtain ⟨h1, h2⟩ := List.mem_filter.mp hp
      have h3 : row[j]? = some y := by
        have q := List.mem_zipIdx_iff_getElem?.mp h1
        exact q
      have ej := nd_ix hd h3 h
      rw [← ej]
      exact h2
    · intro c
      refine List.mem_map.mpr ⟨(x, i), List.mem_filter.mpr ⟨?_, c⟩, rfl⟩
      exact List.mem_zipIdx_iff_getElem?.mpr h
  cases c : looseB ps row i x with
  | true => exact decide_eq_true (e.mpr c)
  | false => exact decide_eq_false (fun z => by rw [e.mp z] at c; cases c)

/-! ### promises -/
def spLooseAt : Sp := fun vs H Q _ => ∃ (d r : Addr) (ps : List (Str × Str)) (row : List Str) (x : Str) (i : Nat), vs = [.ref d, .ref r, .int i] ∧ KnAt H d ps ∧ RowAt H r row ∧ row.length ≤ 100 ∧ row[i]? = some x ∧
  ∀ H', Same H H' → Q (.bl (looseB ps row i x)) H'
def spLoose : Sp := fun vs H Q _ => ∃ (a t : Addr) (ps : List (Str × Str)) (stand : List Str) (x : Str) (i : Nat), vs = [.ref a, .ref t, .str x] ∧ PalsAt H a ps ∧ PalsOk ps ∧ frd ps x x = false ∧ TupAt H t (stand.map V.str) ∧ Goods stand ∧ stand.Nodup ∧ stand.length ≤ 100 ∧ stand[i]? = some x ∧
  ∀ H', Same H H' → Q (.bl (looseB ps stand i x)) H'
end Lk
set_option maxRecDepth 100000
set_option maxHeartbeats 4000000
namespace Lk
open PySem PySem.Spec PyProof.Rows L2

/-! ### whichever go, the same are left -/
def LooseP (ps : List (Str × Str)) (a b : List Str) (x : Str) : Prop :=
  (∀ y ∈ b, frd ps x y = false) ∧ ((∃ a' f, a = a' ++ [f] ∧ frd ps x f = true) ∨ ((∀ y ∈ a, frd ps x y = false) ∧ b = []))
theorem lastP_no {α : Type} {p : α → Bool} {l : List α} : lastP p l = none ↔ ∀ y ∈ l, p y = false := by
  rw [lastP_nil]
  constructor
  · intro h y hy
    cases c : p y with
    | false => rfl
    | true =>
      have m : y ∈ l.filter p := List.mem_filter.mpr ⟨hy, c⟩
      rw [h] at m
      cases m
  · intro h
    refine List.filter_eq_nil_iff.mpr fun y hy => ?_
    rw [h y hy]
    exact Bool.false_ne_true
theorem lastP_end {α : Type} {p : α → Bool} {l : List α} {k : Nat} (h : lastP p l = some k) (e : k + 1 = l.length) : ∃ l' f, l = l' ++ [f] ∧ p f = true := by
  obtain ⟨f, h1, h2, _⟩ := lastP_some h
  refine ⟨l.take k, f, ?_, h2⟩
  have q := split_at h1
  rw [List.drop_eq_nil_of_le (by omega)] at q
  exact q
theorem looseB_iff {ps : List (Str × Str)} {row a b : List Str} {x : Str} (h : row = a ++ x :: b) (irr : frd ps x x = false) : looseB ps row a.length x = true ↔ LooseP ps a b x := by
  have e1 : lastP (frd ps x) (x :: b) = (lastP (frd ps x) b).map (· + 1) := by
    show (match lastP (frd ps x) b with | some k => some (k + 1) | none => if frd ps x x then some 0 else none) = _
    rw [irr]
    cases lastP (frd ps x) b <;> rfl
  have e2 : lastP (frd ps x) row = match lastP (frd ps x) (x :: b) with | some k => some (a.length + k) | none => lastP (frd ps x) a := by
    rw [h]
    exact lastP_append (frd ps x) (x :: b) a
  rw [e1] at e2
  have lr : row.length = a.length + b.length + 1 := by
    rw [h, List.length_append, List.length_cons]
    omega
  unfold looseB LooseP
  rw [e2]
  cases eb : lastP (frd ps x) b with
  | some k =>
    obtain ⟨f, h1, h2, _⟩ := lastP_some eb
    show decide (a.length + (k + 1) + 1 = a.length) = true ↔ _
    rw [decide_eq_true_eq]
    constructor
    · intro z
      omega
    · rintro ⟨z, _⟩
      rw [z f (List.mem_of_getElem? h1)] at h2
      cases h2
  | none =>
    have nb := lastP_no.mp eb
    cases ea : lastP (frd ps x) a with
    | some k =>
      show decide (k + 1 = a.length) = true ↔ _
      rw [decide_eq_true_eq]
      obtain ⟨f, h1, h2, h3⟩ := lastP_some ea
      constructor
      · intro z
        exact ⟨nb, .inl (lastP_end ea z)⟩
      · rintro ⟨_, ⟨a', f', rfl, z⟩ | ⟨z, _⟩⟩
        · rw [List.length_append]
          show k + 1 = a'.length + 1
          have hk := (List.getElem?_eq_some_iff.mp h1).1
          rw [List.length_append] at hk
          have hk' : k < a'.length + 1 := hk
          by_cases c : k < a'.length
          · have q := h3 a'.length f' c (by simp)
            rw [q] at z
            cases z
          · omega
        · rw [z f (List.mem_of_getElem? h1)] at h2
          cases h2
    | none =>
      have na := lastP_no.mp ea
      show decide (a.length + 1 = row.length) = true ↔ _
      rw [decide_eq_true_eq]
      constructor
      · intro z
        exact ⟨nb, .inr ⟨na, List.length_eq_zero_iff.mp (by omega)⟩⟩
      · rintro ⟨_, ⟨a', f', rfl, z⟩ | ⟨_, z⟩⟩
        · rw [na f' (by simp)] at z
          cases z
        · rw [z] at lr
          simpa using lr.symm
def LooseIn (ps : List (Str × Str)) (row : List Str) (x : Str) : Prop := ∃ a b, row = a ++ x :: b ∧ LooseP ps a b x
def Irr (ps : List (Str × Str)) : Prop := ∀ x, frd ps x x = false
def rem (row : List Str) (x : Str) : List Str := row.filter fun y => !decide (y = x)
theorem rem_split {a b : List Str} {x : Str} (hd : (a ++ x :: b).Nodup) : rem (a ++ x :: b) x = a ++ b := by
  have q : (x :: (a ++ b)).Nodup := (List.perm_middle.nodup_iff).mp hd
  have nx := (List.nodup_cons.mp q).1
  unfold rem
  rw [List.filter_append, List.filter_cons]
  have e1 : a.filter (fun y => !decide (y = x)) = a := List.filter_eq_self.mpr fun y hy => by
    have : ¬ y = x := fun z => nx (List.mem_append_left b (z ▸ hy))
    simp [this]
  have e2 : b.filter (fun y => !decide (y = x)) = b := List.filter_eq_self.mpr fun y hy => by
    have : ¬ y = x := fun z => nx (List.mem_append_right a (z ▸ hy))
    simp [this]
  rw [e1, e2]
  simp
theorem rem_nodup {row : List Str} {x : Str} (hd : row.Nodup) : (rem row x).Nodup := hd.filter _
theorem rem_comm (row : List Str) (x y : Str) : rem (rem row x) y = rem (rem row y) x := by
  unfold rem
  rw [List.filter_filter, List.filter_filter]
  refine List.filter_congr fun z _ => ?_
  exact Bool.and_comm _ _
theorem rem_len {row : List Str} {x : Str} (hd : row.Nodup) (hx : x ∈ row) : (rem row x).length + 1 = row.length := by
  obtain ⟨a, b, rfl⟩ := List.append_of_mem hx
  rw [rem_split hd, List.length_append, List.length_append, List.length_cons]
  omega
theorem LooseIn.mem {ps : List (Str × Str)} {row : List Str} {x : Str} (h : LooseIn ps row x) : x ∈ row := by
  obtain ⟨a, b, rfl, _⟩ := h
  simp
theorem split_uniq {row a b c d : List Str} {x : Str} (hd : row.Nodup) (h1 : row = a ++ x :: b) (h2 : row = c ++ x :: d) : a = c ∧ b = d := by
  have e1 : row[a.length]? = some x := by rw [h1]; simp
  have e2 : row[c.length]? = some x := by rw [h2]; simp
  have l := nd_ix hd e1 e2
  have e := h1.symm.trans h2
  have q := List.append_inj e l
  exact ⟨q.1, (List.cons.inj q.2).2⟩
theorem looseL_iff {ps : List (Str × Str)} {row : List Str} {x : Str} (irr : Irr ps) (hd : row.Nodup) : x ∈ looseL ps row ↔ LooseIn ps row x := by
  constructor
  · intro h
    have hx : x ∈ row := by
      unfold looseL at h
      obtain ⟨⟨y, j⟩, hp, rfl⟩ := List.mem_map.mp h
      exact List.mem_of_getElem? (List.mem_zipIdx_iff_getElem?.mp (List.mem_filter.mp hp).1)
    obtain ⟨a, b, e⟩ := List.append_of_mem hx
    have ei : row[a.length]? = some x := by rw [e]; simp
    have q := looseL_mem (ps := ps) hd ei
    rw [decide_eq_true h] at q
    exact ⟨a, b, e, (looseB_iff e (irr x)).mp q.symm⟩
  · rintro ⟨a, b, e, h⟩
    have ei : row[a.length]? = some x := by rw [e]; simp
    have q := looseL_mem (ps := ps) hd ei
    rw [(looseB_iff e (irr x)).mpr h] at q
    exact of_decide_eq_true q
/-- the lemma: of two that are loose each is so without the other -/
theorem diamond {ps : List (Str × Str)} {row : List Str} {x y : Str} (hd : row.Nodup) (hx : LooseIn ps row x) (hy : LooseIn ps row y) (ne : x ≠ y) : LooseIn ps (rem row y) x := by
  obtain ⟨a, b, e, h1, h2⟩ := hx
  have my : y ∈ row := hy.mem
  obtain ⟨c, d, e', g1, g2⟩ := hy
  have my' : y ∈ a ∨ y ∈ b := by
    rw [e] at my
    rcases List.mem_append.mp my with z | z
    · exact .inl z
    · rcases List.mem_cons.mp z with z | z
      · exact absurd z.symm ne
      · exact .inr z
  rcases my' with m | m
  · obtain ⟨a1, a2, rfl⟩ := List.append_of_mem m
    have e2 : row = a1 ++ y :: (a2 ++ x :: b) := by rw [e]; simp
    have er : rem row y = (a1 ++ a2) ++ x :: b := by
      rw [e2, rem_split (by rw [← e2]; exact hd)]
      simp
    refine ⟨a1 ++ a2, b, er, h1, ?_⟩
    obtain ⟨_, u2⟩ := split_uniq hd e2 e'
    rcases h2 with ⟨a', f, ea, hf⟩ | ⟨na, nb⟩
    · rcases List.eq_nil_or_concat a2 with z | ⟨l, g, z⟩
      · subst z
        have q := List.append_inj' ea (by rfl)
        have ey : y = f := (List.cons.inj q.2).1
        have bad := g1 x (by rw [← u2]; simp)
        rw [frd_comm, ey, hf] at bad
        cases bad
      · rw [List.concat_eq_append] at z
        subst z
        have ea' : (a1 ++ y :: l) ++ [g] = a' ++ [f] := by rw [← ea]; simp
        have q := List.append_inj' ea' rfl
        have eg : g = f := (List.cons.inj q.2).1
        exact .inl ⟨a1 ++ l, g, by simp, by rw [eg]; exact hf⟩
    · exact .inr ⟨fun z hz => na z (by
        rcases List.mem_append.mp hz with w | w
        · exact List.mem_append_left _ w
        · exact List.mem_append_right _ (List.mem_cons_of_mem _ w)), nb⟩
  · obtain ⟨b1, b2, rfl⟩ := List.append_of_mem m
    have e2 : row = (a ++ x :: b1) ++ y :: b2 := by rw [e]; simp
    have er : rem row y = a ++ x :: (b1 ++ b2) := by
      rw [e2, rem_split (by rw [← e2]; exact hd)]
      simp
    refine ⟨a, b1 ++ b2, er, fun z hz => h1 z (by
        rcases List.mem_append.mp hz with w | w
        · exact List.mem_append_left _ w
        · exact List.mem_append_right _ (List.mem_cons_of_mem _ w)), ?_⟩
    rcases h2 with h | ⟨_, z⟩
    · exact .inl h
    · exact absurd z (by simp)
/-- one behind the other, loose ones that needn't stay go -/
inductive Red (ps : List (Str × Str)) (stay : List Str) : List Str → List Str → Prop where
  | done (row : List Str) : Red ps stay row row
  | go {row n : List Str} (x : Str) (h : LooseIn ps row x) (hs : x ∉ stay) (t : Red ps stay (rem row x) n) : Red ps stay row n
def Nf (ps : List (Str × Str)) (stay row : List Str) : Prop := ∀ x, LooseIn ps row x → x ∈ stay
theorem Red.swap {ps : List (Str × Str)} {stay row n : List Str} (h : Red ps stay row n) : row.Nodup → Nf ps stay n → ∀ x, LooseIn ps row x → x ∉ stay → Red ps stay (rem row x) n := by
  induction h with
  | done row => intro _ hn x hx hs; exact absurd (hn x hx) hs
  | @go row n y hy ys t ih =>
    intro hd hn x hx hs
    by_cases e : x = y
    · subst e
      exact t
    · have h1 := diamond hd hx hy e
      have h2 := diamond hd hy hx (fun z => e z.symm)
      have q := ih (rem_nodup hd) hn x h1 hs
      rw [rem_comm] at q
      exact .go y h2 ys q
theorem Red.uniq {ps : List (Str × Str)} {stay row n : List Str} (h : Red ps stay row n) : row.Nodup → Nf ps stay n → ∀ m, Red ps stay row m → Nf ps stay m → n = m := by
  induction h with
  | done row =>
    intro _ hn m hm _
    cases hm with
    | done _ => rfl
    | go x hx hs _ => exact absurd (hn x hx) hs
  | @go row n y hy ys t ih =>
    intro hd hn m hm hnm
    exact ih (rem_nodup hd) hn m (hm.swap hd hnm y hy ys) hnm
theorem Red.trans {ps : List (Str × Str)} {stay row n m : List Str} (h : Red ps stay row n) : Red ps stay n m → Red ps stay row m := by
  induction h with
  | done row => exact fun q => q
  | go x hx hs _ ih => exact fun q => .go x hx hs (ih q)
/-- who comes is loose -/
theorem come_loose (ps : List (Str × Str)) (stand : List Str) (x : Str) : LooseIn ps (comeTo ps stand x) x := by
  refine ⟨stand.take (spotOf ps stand x), stand.drop (spotOf ps stand x), by unfold comeTo; simp, ?_, ?_⟩
  · intro y hy
    unfold spotOf at hy
    cases e : lastP (frd ps x) stand with
    | none =>
      rw [e] at hy
      exact lastP_no.mp e y (List.mem_of_mem_drop hy)
    | some k =>
      rw [e] at hy
      obtain ⟨f, h1, h2, h3⟩ := lastP_some e
      obtain ⟨j, hj⟩ := List.mem_iff_getElem?.mp hy
      rw [List.getElem?_drop] at hj
      exact h3 _ y (by show k < k + 1 + j; omega) hj
  · unfold spotOf
    cases e : lastP (frd ps x) stand with
    | none =>
      refine .inr ⟨fun y hy => lastP_no.mp e y (List.mem_of_mem_take hy), ?_⟩
      show stand.drop stand.length = []
      exact List.drop_length
    | some k =>
      obtain ⟨f, h1, h2, h3⟩ := lastP_some e
      refine .inl ⟨stand.take k, f, ?_, h2⟩
      show stand.take (k + 1) = _
      rw [List.take_add_one, h1]
      rfl
theorem come_rem {ps : List (Str × Str)} {stand : List Str} {x : Str} (hd : (x :: stand).Nodup) : rem (comeTo ps stand x) x = stand := by
  have e : comeTo ps stand x = stand.take (spotOf ps stand x) ++ x :: stand.drop (spotOf ps stand x) := by
    unfold comeTo
    simp
  have hn : (comeTo ps stand x).Nodup := (come_perm ps stand x).nodup_iff.mpr hd
  rw [e] at hn ⊢
  rw [rem_split hn, List.take_append_drop]
theorem stand_snoc {ps : List (Str × Str)} {o : List Str} (h : o ≠ []) : ∃ o' x, o = o' ++ [x] ∧ standOf ps o = comeTo ps (standOf ps o') x := by
  rcases List.eq_nil_or_concat o with z | ⟨l, x, z⟩
  · exact absurd z h
  · rw [List.concat_eq_append] at z
    exact ⟨l, x, z, by rw [z, standOf_app]⟩
theorem stand_red {ps : List (Str × Str)} : ∀ (n : Nat) (o : List Str), o.length = n → o.Nodup → Red ps [] (standOf ps o) []
  | 0, o, h, _ => by
    have e : o = [] := List.length_eq_zero_iff.mp h
    subst e
    exact .done []
  | n + 1, o, h, hd => by
    obtain ⟨o', x, rfl, e2⟩ := stand_snoc (ps := ps) (o := o) (fun z => by rw [z] at h; cases h)
    rw [List.length_append] at h
    have h' : o'.length = n := by
      have : o'.length + 1 = n + 1 := h
      omega
    have hd' : (x :: o').Nodup := ((List.perm_append_singleton x o').nodup_iff).mp hd
    have hs : (x :: standOf ps o').Nodup := ((stand_perm ps o').cons x).nodup_iff.mpr hd'
    rw [e2]
    refine .go x (come_loose ps _ x) (fun z => nomatch z) ?_
    rw [come_rem hs]
    exact stand_red n o' h' (List.nodup_cons.mp hd').2
/-! ### two more comparisons -/
section
variable {X : Cx}
def rNeT : R2 := fun x y H Q => ∃ (a b : Addr) (xs ys : List Str), x = .ref a ∧ y = .ref b ∧ TupAt H a (xs.map V.str) ∧ TupAt H b (ys.map V.str) ∧ Goods xs ∧ Goods ys ∧ Q (.bl (!decide (xs = ys))) H
theorem op_neT (hu : X.A.units + 64 < cLine) : OpR X (compareOp .NotEq) rNeT := by
  intro pins s σ H x y v u Q I rx ry h
  obtain ⟨a, b, xs, ys, rfl, rfl, ha, hb, g1, g2, q⟩ := h
  refine op_neD hu pins s σ H _ _ v u Q I rx ry ⟨_, _, .tup ha.sq (dp_strs xs), .tup hb.sq (dp_strs ys), sh_tuple g1, sh_tuple g2, ?_⟩
  have e : PyData.eqv (.tuple (xs.map .str)) (.tuple (ys.map .str)) = decide (xs = ys) := by
    rw [PyData.eqv, eqv_strs]
  rw [e]
  exact q
end
theorem Goods.rem {xs : List Str} {x : Str} (h : Goods xs) : Goods (Lk.rem xs x) := h.filter
theorem looseL_sub {ps : List (Str × Str)} {row : List Str} {x : Str} (h : x ∈ looseL ps row) : x ∈ row := by
  unfold looseL at h
  obtain ⟨⟨y, j⟩, hp, rfl⟩ := List.mem_map.mp h
  exact List.mem_of_getElem? (List.mem_zipIdx_iff_getElem?.mp (List.mem_filter.mp hp).1)
theorem nf_nil (ps : List (Str × Str)) : Nf ps [] [] := fun x hx => by
  obtain ⟨a, b, e, _⟩ := hx
  exact absurd e (by simp)

/-! ### promises -/
end Lk
set_option maxRecDepth 100000
set_option maxHeartbeats 4000000
namespace Lk
open PySem PySem.Spec PyProof.Rows L2

/-! ### how many that came later stand ahead -/
abbrev B3N := Addr × Str × Nat
def PairsN (H : Hp) (qs : List B3N) : Prop := ∀ q ∈ qs, H q.1 = some (.tup [.str q.2.1, .int q.2.2])
theorem PairsN.same {H H' : Hp} {qs : List B3N} (s : Same H H') (h : PairsN H qs) : PairsN H' qs := fun b hb => s _ _ (h b hb)
theorem PairsN.oth {H H' : Hp} {b : Addr} {qs : List B3N} (s : Oth b H H') (hb : IsBox H b) (h : PairsN H qs) : PairsN H' qs := fun c hc => s _ _ (hb.ne_tup (h c hc)) (h c hc)
theorem PairsN.upd_ {H : Hp} {l : Addr} {ys : List V} {o' : HO} {qs : List B3N} (hl : H l = some (.lst ys)) (h : PairsN H qs) : PairsN (upd H l o') qs := fun c hc => (upd_ne (ne_of (h c hc) hl (fun z => nomatch z))).trans (h c hc)
/-! ### a walk's dict comprehension -/
/-! ### promises -/
end Lk
set_option maxRecDepth 100000
set_option maxHeartbeats 4000000
namespace Lk
open PySem PySem.Spec PyProof.Rows L2

/-! ### who goes, one after another: the hindmost one first -/
def someTo (ps : List (Str × Str)) (stay row : List Str) (n : Nat) : List Str := (looseTo ps row n).filter fun x => !decide (x ∈ stay)
def someL (ps : List (Str × Str)) (stay row : List Str) : List Str := (looseL ps row).filter fun x => !decide (x ∈ stay)
theorem someTo_all (ps : List (Str × Str)) (stay row : List Str) : someTo ps stay row row.length = someL ps stay row := by
  unfold someTo someL
  rw [looseTo_all]
theorem someTo_step {ps : List (Str × Str)} {stay row : List Str} {i : Nat} {x : Str} (h : row[i]? = some x) : someTo ps stay row (i + 1) = someTo ps stay row i ++ if (!decide (x ∈ stay) && looseB ps row i x) = true then [x] else [] := by
  unfold someTo
  rw [looseTo_step h, List.filter_append]
  congr 1
  by_cases c : looseB ps row i x = true
  · rw [if_pos c, c, Bool.and_true, List.filter_cons, List.filter_nil]
  · rw [if_neg c]
    simp [c]
theorem someTo_len (ps : List (Str × Str)) (stay row : List Str) (n : Nat) : (someTo ps stay row n).length ≤ row.length := Nat.le_trans (List.length_filter_le _ _) (looseTo_len _ _ _)
theorem someL_len (ps : List (Str × Str)) (stay row : List Str) : (someL ps stay row).length ≤ row.length := by
  rw [← someTo_all]
  exact someTo_len _ _ _ _
theorem someL_sub {ps : List (Str × Str)} {stay row : List Str} {x : Str} (h : x ∈ someL ps stay row) : x ∈ looseL ps row ∧ x ∉ stay := by
  obtain ⟨h1, h2⟩ := List.mem_filter.mp h
  refine ⟨h1, ?_⟩
  simpa using h2
theorem someL_in {ps : List (Str × Str)} {stay row : List Str} {x : Str} (h : x ∈ looseL ps row) (hs : x ∉ stay) : x ∈ someL ps stay row :=
  List.mem_filter.mpr ⟨h, by simpa using hs⟩
def goneN (ps : List (Str × Str)) (stay : List Str) : Nat → List Str → List Str × List Str
  | 0, row => ([], row)
  | n + 1, row => match (someL ps stay row).getLast? with
    | none => ([], row)
    | some x => (x :: (goneN ps stay n (rem row x)).1, (goneN ps stay n (rem row x)).2)
def goneO (ps : List (Str × Str)) (stay row : List Str) : List Str := (goneN ps stay row.length row).1
def goneR (ps : List (Str × Str)) (stay row : List Str) : List Str := (goneN ps stay row.length row).2
theorem gone_none {ps : List (Str × Str)} {stay row : List Str} (h : someL ps stay row = []) : goneO ps stay row = [] ∧ goneR ps stay row = row := by
  unfold goneO goneR
  cases row.length with
  | zero => exact ⟨rfl, rfl⟩
  | succ n =>
    unfold goneN
    rw [h]
    exact ⟨rfl, rfl⟩
theorem last_mem {α : Type} {l : List α} {x : α} (h : l.getLast? = some x) : x ∈ l := by
  obtain ⟨ys, e⟩ := List.getLast?_eq_some_iff.mp h
  rw [e]
  simp
theorem gone_some {ps : List (Str × Str)} {stay row : List Str} {x : Str} (hd : row.Nodup) (h : (someL ps stay row).getLast? = some x) : goneO ps stay row = x :: goneO ps stay (rem row x) ∧ goneR ps stay row = goneR ps stay (rem row x) := by
  have hx := looseL_sub (someL_sub (last_mem h)).1
  have rl := rem_len hd hx
  unfold goneO goneR
  rw [← rl]
  show (goneN ps stay ((rem row x).length + 1) row).1 = _ ∧ _
  unfold goneN
  rw [h]
  cases (rem row x).length <;> exact ⟨rfl, rfl⟩
theorem gone_red {ps : List (Str × Str)} {stay : List Str} (irr : Irr ps) : ∀ (n : Nat) (row : List Str), row.length = n → row.Nodup → Red ps stay row (goneR ps stay row) ∧ Nf ps stay (goneR ps stay row) ∧ (goneO ps stay row).length ≤ n
  | n, row, hn, hd => by
    cases e : (someL ps stay row).getLast? with
    | none =>
      have e' := List.getLast?_eq_none_iff.mp e
      obtain ⟨g1, g2⟩ := gone_none e'
      rw [g1, g2]
      refine ⟨.done row, fun x hx => ?_, Nat.zero_le _⟩
      refine Classical.byContradiction fun c => ?_
      have := someL_in ((looseL_iff irr hd).mpr hx) c
      rw [e'] at this
      cases this
    | some x =>
      obtain ⟨g1, g2⟩ := gone_some hd e
      obtain ⟨m1, m2⟩ := someL_sub (last_mem e)
      have lx := (looseL_iff irr hd).mp m1
      have rl := rem_len hd lx.mem
      match n, hn with
      | 0, hn => omega
      | n + 1, hn =>
        obtain ⟨i1, i2, i3⟩ := gone_red irr n (rem row x) (by omega) (rem_nodup hd)
        rw [g1, g2]
        refine ⟨.go x lx m2 i1, i2, ?_⟩
        rw [List.length_cons]
        omega
theorem gone_len {ps : List (Str × Str)} {stay : List Str} : ∀ (n : Nat) (row : List Str), row.length = n → row.Nodup → (goneO ps stay row).length + (goneR ps stay row).length = n
  | n, row, hn, hd => by
    cases e : (someL ps stay row).getLast? with
    | none =>
      obtain ⟨g1, g2⟩ := gone_none (List.getLast?_eq_none_iff.mp e)
      rw [g1, g2]
      show 0 + row.length = n
      omega
    | some x =>
      obtain ⟨g1, g2⟩ := gone_some hd e
      have hx := looseL_sub (someL_sub (last_mem e)).1
      have rl := rem_len hd hx
      match n, hn with
      | 0, hn => omega
      | n + 1, hn =>
        have ih := gone_len (ps := ps) (stay := stay) n (rem row x) (by omega) (rem_nodup hd)
        rw [g1, g2, List.length_cons]
        omega
theorem nf_some {ps : List (Str × Str)} {stay row : List Str} (irr : Irr ps) (hd : row.Nodup) (h : someL ps stay row = []) : Nf ps stay row := fun x hx => by
  refine Classical.byContradiction fun c => ?_
  have := someL_in ((looseL_iff irr hd).mpr hx) c
  rw [h] at this
  cases this
theorem gone_uniq {ps : List (Str × Str)} {stay row m : List Str} (irr : Irr ps) (hd : row.Nodup) (h : Red ps stay row m) (hn : Nf ps stay m) : m = goneR ps stay row := by
  obtain ⟨r1, r2, _⟩ := gone_red (stay := stay) irr row.length row rfl hd
  exact h.uniq hd hn _ r1 r2
theorem Red.nodup {ps : List (Str × Str)} {stay row n : List Str} (h : Red ps stay row n) : row.Nodup → n.Nodup := by
  induction h with
  | done row => exact id
  | go x h hs t ih => exact fun hd => ih (rem_nodup hd)
theorem Red.snoc {ps : List (Str × Str)} {stay row n : List Str} {x : Str} (h : Red ps stay row n) (hx : LooseIn ps n x) (hs : x ∉ stay) : Red ps stay row (rem n x) := h.trans (.go x hx hs (.done _))
theorem Red.len {ps : List (Str × Str)} {stay row n : List Str} (h : Red ps stay row n) : n.length ≤ row.length := by
  induction h with
  | done row => exact Nat.le_refl _
  | go x h hs t ih => exact Nat.le_trans ih (List.length_filter_le _ _)
theorem Red.sub {ps : List (Str × Str)} {stay row n : List Str} (h : Red ps stay row n) : ∀ y ∈ n, y ∈ row := by
  induction h with
  | done row => exact fun _ h => h
  | go x h hs t ih => exact fun y hy => (List.mem_filter.mp (ih y hy)).1
theorem erase_rem {row : List Str} {i : Nat} {x : Str} (hd : row.Nodup) (h : row[i]? = some x) : row.eraseIdx i = rem row x := by
  have e := split_at h
  have hi : i < row.length := (List.getElem?_eq_some_iff.mp h).1
  have e2 : rem row x = row.take i ++ row.drop (i + 1) := by
    rw [show rem row x = rem (row.take i ++ x :: row.drop (i + 1)) x by rw [← e]]
    exact rem_split (by rw [← e]; exact hd)
  rw [e2, List.eraseIdx_eq_take_drop_succ]
theorem erase_map {α : Type} (f : α → V) (xs : List α) (i : Nat) : (xs.map f).eraseIdx i = (xs.eraseIdx i).map f := by
  rw [List.eraseIdx_eq_take_drop_succ, List.eraseIdx_eq_take_drop_succ, List.map_append, List.map_take, List.map_drop]

/-! ### promises -/
def ButAt (K : PySem.W.Frag) (H : Hp) (p : Addr) (stay : List Str) : Prop := SqL K H p (stay.map V.str) ∨ SqT K H p (stay.map V.str)
def hindV (row : List Str) (out : Option Str) (v : V) : Prop := match out with
  | none => v = .non
  | some x => ∃ i : Nat, v = .int i ∧ row[i]? = some x
def spHind (K : PySem.W.Frag) : Sp := fun vs H Q _ => ∃ (d r p : Addr) (ps : List (Str × Str)) (row stay : List Str), vs = [.ref d, .ref r, .ref p] ∧ KnAt H d ps ∧ H r = some (.lst (row.map V.str)) ∧ row.length ≤ 100 ∧ (∀ H', Same H H' → ButAt K H' p stay) ∧
  ∀ v H', Same H H' → hindV row (someL ps stay row).getLast? v → Q v H'
def spStayed (K : PySem.W.Frag) : Sp := fun vs H Q _ => ∃ (d r p : Addr) (ps : List (Str × Str)) (row stay : List Str), vs = [.ref d, .ref r, .ref p] ∧ KnAt H d ps ∧ RowAt H r row ∧ row.Nodup ∧ row.length ≤ 100 ∧ (∀ H', Same H H' → ButAt K H' p stay) ∧
  ∀ T g t H', Same H H' → H g = none → H' T = some (.tup [.ref g, .ref t]) → H' g = some (.lst ((goneO ps stay row).map V.str)) → TupAt H' t ((goneR ps stay row).map V.str) → Q (.ref T) H'
def spGone (K : PySem.W.Frag) : Sp := fun vs H Q _ => ∃ (a r p : Addr) (ps : List (Str × Str)) (row stay : List Str), vs = [.ref a, .ref r, .ref p] ∧ FrAt H a ps ∧ ps.length ≤ 1000 ∧ RowAt H r row ∧ row.Nodup ∧ row.length ≤ 100 ∧ (∀ H', Same H H' → ButAt K H' p stay) ∧
  ∀ T g t H', Same H H' → H g = none → H' T = some (.tup [.ref g, .ref t]) → H' g = some (.lst ((goneO ps stay row).map V.str)) → TupAt H' t ((goneR ps stay row).map V.str) → Q (.ref T) H'
def spGoers (K : PySem.W.Frag) : Sp := fun vs H Q _ => ∃ (a r p : Addr) (ps : List (Str × Str)) (row stay : List Str), vs = [.ref a, .ref r, .ref p] ∧ FrAt H a ps ∧ ps.length ≤ 1000 ∧ RowAt H r row ∧ row.Nodup ∧ row.length ≤ 100 ∧ (∀ H', Same H H' → ButAt K H' p stay) ∧
  ∀ g H', Same H H' → H g = none → H' g = some (.lst ((goneO ps stay row).map V.str)) → Q (.ref g) H'
def spLeft (K : PySem.W.Frag) : Sp := fun vs H Q _ => ∃ (a r p : Addr) (ps : List (Str × Str)) (row stay : List Str), vs = [.ref a, .ref r, .ref p] ∧ FrAt H a ps ∧ ps.length ≤ 1000 ∧ RowAt H r row ∧ row.Nodup ∧ row.length ≤ 100 ∧ (∀ H', Same H H' → ButAt K H' p stay) ∧
  ∀ t H', Same H H' → TupAt H' t ((goneR ps stay row).map V.str) → Q (.ref t) H'
end Lk
set_option maxRecDepth 100000
set_option maxHeartbeats 4000000
namespace Lk
open PySem PySem.Spec PyProof.Rows L2
theorem tuple_mul1 (l : Addr) (items : Array Value) (n : Nat) (dd : Option Addr) (sl : Array (Option Value)) (u : Tok) :
    Meets (Builtin.«tuple.__mul__» ⟨[.ref l, .int 1 u], []⟩) (fun _ R s => s.heap.get? l = some { cls := .type "tuple", dict := dd, data := .seq items n, slots := sl } ∧ R (.ok (.ret (.ref l))) s) :=
  .of_wp fun prog w A R s h => by
    obtain ⟨hp, g, d, tk, os⟩ := s
    obtain ⟨hl, h⟩ := h
    have f1 := AutoSeq1.idx_int
    have c1 : (items.isEmpty || (1 : Int) == 1) = true := by simp
    wp_walk using wpAny_loadPart' hl
    repeat (first
      | (refine wpAny_ite_false (decide_eq_false (by decide)) ?_; wp_walk using wpAny_loadPart' hl)
      | (refine wpAny_ite_true (decide_eq_true c1) ?_; wp_walk using wpAny_loadPart' hl))
    exact ⟨_, rfl, h⟩
theorem tuple_mul0 (l : Addr) (items : Array Value) (n : Nat) (dd : Option Addr) (sl : Array (Option Value)) (u : Tok) (hi : items.isEmpty = false) :
    Meets (Builtin.«tuple.__mul__» ⟨[.ref l, .int 0 u], []⟩) (fun _ R s => s.heap.get? l = some { cls := .type "tuple", dict := dd, data := .seq items n, slots := sl } ∧
      R (.ok (.ret (Value.ref s.heap.objs.size))) { s with heap := s.heap.push { cls := Value.type "tuple", data := Data.seq #[] }, toks := s.toks }) :=
  .of_wp fun prog w A R s h => by
    obtain ⟨hp, g, d, tk, os⟩ := s
    obtain ⟨hl, h⟩ := h
    have f1 := AutoSeq1.idx_int
    have c1 : (items.isEmpty || (0 : Int) == 1) = false := by rw [hi]; rfl
    have c2 : (decide ((0 : Int) ≤ 0) || items.isEmpty) = true := by simp
    wp_walk using wpAny_loadPart' hl
    repeat (first
      | (refine wpAny_ite_false (decide_eq_false (by decide)) ?_; wp_walk using wpAny_loadPart' hl)
      | (refine wpAny_ite_false (decide_eq_false (by rw [c1]; exact Bool.false_ne_true)) ?_; wp_walk using wpAny_loadPart' hl)
      | (refine wpAny_ite_true (decide_eq_true c2) ?_; wp_walk using wpAny_loadPart' hl))
    exact ⟨_, rfl, h⟩
/-- a tuple taken no times, or once -/
def rMul01 : R2 := fun x y H Q => ∃ l k xs, x = .ref l ∧ y = .int k ∧ TupAt H l xs ∧ xs ≠ [] ∧ 0 ≤ k ∧ k ≤ 1 ∧ ∀ t H', Same H H' → TupAt H' t (if k = 0 then [] else xs) → Q (.ref t) H'
section
variable {X : Cx}
theorem op_mul01 : OpR X (binaryOp .Mult) rMul01 := by
  intro pins s σ H x y v u Q I rx ry h
  obtain ⟨l, k, xs, rfl, rfl, hT, hne, h0, h1, q⟩ := h
  cases rx
  obtain ⟨t, rfl⟩ := ry
  obtain ⟨its, r, ⟨⟨cls, dd, data, sl⟩, ho, hc, n, hd⟩, hs⟩ := I.tuple (hT.sq (K := X.K))
  simp only at hc hd
  subst hc hd
  have hi : its.toArray.isEmpty = false := by
    cases its with
    | nil => cases r; exact absurd rfl hne
    | cons a b => rfl
  rcases (show k = 0 ∨ k = 1 by omega) with e | e
  · subst e
    refine wpAny_binaryOp_repeat_ref (T := "tuple") (U := "int") (by decide) ⟨_, ho, rfl⟩ (fun s' => typeIs_int s' 0 t) noFill_tuple_mul F.fills_int_mul F.slot_int_rmul repeat_tuple F.slot_int_index.lookup
      (call_meets F.slot_int_rmul (typeIs_int s 0 t) F.entry_int_rmul (F.args_int_rmul_2 _ _) (int_rmul_tuple 0 t l its.toArray n dd sl)
        ⟨ho, rfl, ⟨_, ho, rfl⟩, call_meets F.slot_tuple_mul ⟨_, ho, rfl⟩ F.entry_tuple_mul (F.args_tuple_mul_2 _ _) (tuple_mul0 l its.toArray n dd sl t hi) ⟨ho, ?_⟩⟩)
    have hf : H s.heap.objs.size = none := I.hok.fresh (Nat.le_refl _)
    exact ⟨.ref s.heap.objs.size, _, laid_tup (xs := []) (its := []) I (Nat.zero_le _) .nil, rfl, q _ _ (same_upd hf) ⟨_, rfl, upd_same⟩⟩
  · subst e
    refine wpAny_binaryOp_repeat_ref (T := "tuple") (U := "int") (by decide) ⟨_, ho, rfl⟩ (fun s' => typeIs_int s' 1 t) noFill_tuple_mul F.fills_int_mul F.slot_int_rmul repeat_tuple F.slot_int_index.lookup
      (call_meets F.slot_int_rmul (typeIs_int s 1 t) F.entry_int_rmul (F.args_int_rmul_2 _ _) (int_rmul_tuple 1 t l its.toArray n dd sl)
        ⟨ho, rfl, ⟨_, ho, rfl⟩, call_meets F.slot_tuple_mul ⟨_, ho, rfl⟩ F.entry_tuple_mul (F.args_tuple_mul_2 _ _) (tuple_mul1 l its.toArray n dd sl t) ⟨ho, ?_⟩⟩)
    exact ⟨.ref l, H, I, rfl, q _ _ (Same.refl H) hT⟩
end
theorem PalsAt.upd_ {H : Hp} {l a : Addr} {ys : List V} {o' : HO} {ps : List (Str × Str)} (h : PalsAt H a ps) (hl : H l = some (.lst ys)) : PalsAt (upd H l o') a ps := by
  obtain ⟨bs, h1, h2, h3⟩ := h
  exact ⟨bs, (upd_ne (ne_of h1 hl (fun z => nomatch z))).trans h1, fun c hc => (upd_ne (ne_of (h2 c hc) hl (fun z => nomatch z))).trans (h2 c hc), h3⟩
/-! ### the law's own going -/
def spLGone : Sp := fun vs H Q _ => ∃ (b a t st : Addr) (bx : V) (ps : List (Str × Str)) (stand stay : List Str), vs = [bx, .ref a, .ref t, .ref st] ∧ IsBox H b ∧ (bx = .non ∨ bx = .ref b) ∧ PalsAt H a ps ∧ PalsOk ps ∧ Irr ps ∧ TupAt H t (stand.map V.str) ∧ Goods stand ∧ stand.Nodup ∧ stand.length ≤ 100 ∧ TupAt H st (stay.map V.str) ∧
  ∀ (T g t' : Addr) (out : List Str) (H' : Hp), Oth b H H' → IsBox H' b → H g = none → H' T = some (.tup [.ref g, .ref t']) → H' g = some (.lst (out.map V.str)) → TupAt H' t' ((goneR ps stay stand).map V.str) → (bx = .non → out = goneO ps stay stand) → Q (.ref T) H'
/-! ### a def with one keyword-only parameter that has a default -/
structure Cal3 (P : Program) (w : World) (K : PySem.W.Frag) (mg : Str → Option Value) (base : Heap) (k : Nat) (x : Str) (sp : Sp) (E : Addr) : Prop where
  ex : ∃ f fd, FnOk P w K mg base CX0 k f fd ["friends", "row", "but"] sp ∧ mg x = some (.ref f) ∧ PySem.W.keepIn K (.ref f) = true ∧ KBn K fd ["friends", "row", "but"] 2 ["but"] (fun us ws => us ++ ws) (fun vs zs => vs ++ zs) ∧ KBinds K fd ["friends", "row", "but"] ["but", "row", "friends"] gRev gRev ∧ (∃ ds, Vals [V.ref E] ds ∧ Binds K fd ["friends", "row", "but"] ds) ∧
    (∃ mv : List Value, KBn K fd ["friends", "row", "but"] 0 ["row", "friends"] (fun us ws => ws.reverse ++ mv) (fun vs zs => zs.reverse ++ [V.ref E]))
  emp : ∃ (o : Obj) (n : Nat), K.lookup E = some o ∧ o.cls = .type "tuple" ∧ o.data = .seq #[] n
theorem Cal3.but {P : Program} {w : World} {K : PySem.W.Frag} {mg : Str → Option Value} {base : Heap} {k : Nat} {x : Str} {sp : Sp} {E : Addr} (C : Cal3 P w K mg base k x sp E) (H : Hp) : ButAt K H E [] := by
  obtain ⟨o, n, h1, h2, h3⟩ := C.emp
  exact .inr (.inr ⟨o, #[], n, h1, h2, h3, Nat.zero_le _, .nil⟩)
section
variable {X : Cx} {k : Nat} {x : Str} {sp : Sp} {D : Addr} {p pos : Pos} {e : Expr} {es : List Expr} {t tk : TA} {kws : List Keyword}
/-- f(a, b, but = c) -/
theorem pe_cal3k (C : Cal3 X.prog X.w X.K X.mg X.base k x sp D) (hr : Room k X.A) (ha : PA X (e :: es) t) (hkw : PK X kws tk) (hg : Gl X x := by rfl)
    (hall : (backToKw pos (keywordEach kws X.env)).all (·.1.isSome) = true := by rfl) (hks : (backToKw pos (keywordEach kws X.env)).filterMap (·.1) = (["but"] : List Str) := by rfl)
    (hdb : (x == ("__debug__" : Str)) = false := by decide) (he : starEach (e :: es) X.env = (false, eval e X.env) :: starEach es X.env := by rfl)
    (hpl : ((backTo pos (starEach (e :: es) X.env)).any (·.1) || (backToKw pos (keywordEach kws X.env)).any (·.1.isNone)) = false := by rfl) :
    PE X (.Call (.Name x p) (e :: es) kws pos) (tCallN 2 1 sp (fun vs zs => vs ++ zs) E0 t tk) := by
  obtain ⟨f, fd, F, hm, hk, b1, _⟩ := C.ex
  exact pe_callN F hr hg hm hk b1 pass0 ha hkw (hall := hall) (hks := hks) (hdb := hdb) (he := he) (hpl := hpl)
/-- f(but = c, row = b, friends = a) -/
theorem pe_cal3r (C : Cal3 X.prog X.w X.K X.mg X.base k x sp D) (hr : Room k X.A) (hkw : PK X kws tk) (hg : Gl X x := by rfl)
    (hall : (backToKw pos (keywordEach kws X.env)).all (·.1.isSome) = true := by rfl) (hks : (backToKw pos (keywordEach kws X.env)).filterMap (·.1) = (["but", "row", "friends"] : List Str) := by rfl)
    (hdb : (x == ("__debug__" : Str)) = false := by decide)
    (hpl : ((backTo pos (starEach [] X.env)).any (·.1) || (backToKw pos (keywordEach kws X.env)).any (·.1.isNone)) = false := by rfl) :
    PE X (.Call (.Name x p) [] kws pos) (tCallK sp gRev E0 tNil tk) := by
  obtain ⟨f, fd, F, hm, hk, _, b2, _⟩ := C.ex
  exact pe_callK0 F hr hg hm hk b2 pass0 hkw (hall := hall) (hks := hks) (hdb := hdb) (hpl := hpl)
/-- f(a, b) -/
theorem pe_cal3 (C : Cal3 X.prog X.w X.K X.mg X.base k x sp D) (hr : Room k X.A) (ha : PA X (e :: es) t) (hg : Gl X x := by rfl) (hdb : (x == ("__debug__" : Str)) = false := by decide)
    (he : starEach (e :: es) X.env = (false, eval e X.env) :: starEach es X.env := by rfl) (hpl : (backTo pos (starEach es X.env)).any (·.1) = false := by rfl) :
    PE X (.Call (.Name x p) (e :: es) [] pos) (tCall sp [V.ref D] E0 t) := by
  obtain ⟨f, fd, F, hm, hk, _, _, ⟨ds, hd, b3⟩, _⟩ := C.ex
  exact pe_call F hr hg hm hk b3 hd pass0 ha (hdb := hdb) (he := he) (hpl := hpl)
/-- f(row = b, friends = a) -/
theorem pe_cal3d (C : Cal3 X.prog X.w X.K X.mg X.base k x sp D) (hr : Room k X.A) (hkw : PK X kws tk) (hg : Gl X x := by rfl)
    (hall : (backToKw pos (keywordEach kws X.env)).all (·.1.isSome) = true := by rfl) (hks : (backToKw pos (keywordEach kws X.env)).filterMap (·.1) = (["row", "friends"] : List Str) := by rfl)
    (hdb : (x == ("__debug__" : Str)) = false := by decide)
    (hpl : ((backTo pos (starEach [] X.env)).any (·.1) || (backToKw pos (keywordEach kws X.env)).any (·.1.isNone)) = false := by rfl) :
    PE X (.Call (.Name x p) [] kws pos) (tCallN 0 2 sp (fun vs zs => zs.reverse ++ [V.ref D]) E0 tNil tk) := by
  obtain ⟨f, fd, F, hm, hk, _, _, _, mv, b4⟩ := C.ex
  exact pe_callN0 F hr hg hm hk b4 pass0 hkw (hall := hall) (hks := hks) (hdb := hdb) (hpl := hpl)
end
abbrev p3 : List Str := ["friends", "row", "but"]
theorem cal3_mk {P : Program} {w : World} {K : PySem.W.Frag} {mg : Str → Option Value} {base : Heap} {k : Nat} {x : Str} {st : Stmt} {sp : Sp} {f D E : Addr} {oc : Value} {od an ed : Option Addr} {osl es : Array (Option Value)} {doc pm cdv ct : Value} {en : Nat}
    (l : K.lookup f = some ⟨oc, od, .func (PySem.W.fnOf x x (defArgs st) (defBody st) (defScope st) .none (.ref D) doc pm an cdv ct), osl⟩) (c : PySem.W.codeIn K cdv x = true) (kp : PySem.W.keepIn K (.ref f) = true) (n : PySem.W.nsIn K D "but" = some (some (.ref E)))
    (e : K.lookup E = some ⟨.type "tuple", ed, .seq #[] en, es⟩) (hm : mg x = some (.ref f)) (ok : FnOk P w K mg base CX0 k f (PySem.W.fnOf x x (defArgs st) (defBody st) (defScope st) .none (.ref D) doc pm an cdv ct) p3 sp)
    (hb1 : ∀ (kV doc pm : Value) (an : Option Addr) (cdv ct : Value) (us ws : List Value), us.length = 2 → ws.length = 1 → bindArgs (PySem.W.fnOf x x (defArgs st) (defBody st) (defScope st) .none kV doc pm an cdv ct) ⟨us, (["but"] : List Str).zip ws⟩ = pure (p3.zip (us ++ ws)))
    (hb2 : ∀ (kV doc pm : Value) (an : Option Addr) (cdv ct : Value) (ws : List Value), ws.length = 3 → bindArgs (PySem.W.fnOf x x (defArgs st) (defBody st) (defScope st) .none kV doc pm an cdv ct) ⟨[], (["but", "row", "friends"] : List Str).zip ws⟩ = pure (p3.zip ws.reverse))
    (hb3 : ∀ (D : Addr) (doc pm : Value) (an : Option Addr) (cdv ct : Value) (us ks : List Value), us.length = 2 → ks.length = 1 → KwChain D ((["but"] : List Str).zip ks) (bindArgs (PySem.W.fnOf x x (defArgs st) (defBody st) (defScope st) .none (.ref D) doc pm an cdv ct) ⟨us, []⟩) (p3.zip (us ++ ks)))
    (hb4 : ∀ (D : Addr) (doc pm : Value) (an : Option Addr) (cdv ct : Value) (mv ws : List Value), mv.length = 1 → ws.length = 2 → KwChain D ((["but"] : List Str).zip mv) (bindArgs (PySem.W.fnOf x x (defArgs st) (defBody st) (defScope st) .none (.ref D) doc pm an cdv ct) ⟨[], (["row", "friends"] : List Str).zip ws⟩) (p3.zip (ws.reverse ++ mv))) :
    Cal3 P w K mg base k x sp E := by
  have FD : FunD K x x (defArgs st) (defBody st) (defScope st) [] [("but", V.ref E)] f (PySem.W.fnOf x x (defArgs st) (defBody st) (defScope st) .none (.ref D) doc pm an cdv ct) :=
    ⟨⟨oc, od, .none, .ref D, doc, pm, an, cdv, ct, osl, rfl, l, c, .inl ⟨rfl, rfl⟩, .inr ⟨D, rfl, fun q hq => by rw [List.mem_singleton.mp hq]; exact ⟨_, n, rfl⟩⟩⟩, kp⟩
  have F : Fun K x x st f (PySem.W.fnOf x x (defArgs st) (defBody st) (defScope st) .none (.ref D) doc pm an cdv ct) := fun_mk l c kp
  refine ⟨⟨f, _, ok, hm, kp, ⟨fun s us ws _ h1 h2 => .of_eq (hb1 _ _ _ _ _ _ us ws h1 h2), fun r1 r2 => r1.append r2⟩, ?_, ?_, ?_⟩, ⟨_, en, e, rfl, rfl⟩⟩
  · exact kbinds_rev F (fun z => nomatch z) fun kV doc pm an cdv ct ws h => hb2 kV doc pm an cdv ct ws h
  · exact FD.binds0 (ps := p3) 2 (fun z => nomatch z) rfl fun D doc pm an cdv ct us ks h1 h2 => hb3 D doc pm an cdv ct us ks h1 h2
  · obtain ⟨mv, b⟩ := FD.kbinds0 (ps := p3) 0 ["row", "friends"] [("but", V.ref E)] (fun us mv ws => ws.reverse ++ mv) (fun z => nomatch z) (fun q hq => hq) (fun r1 r2 r3 => (vals_rev r3).append r2) (fun D doc pm an cdv ct us mv ws h1 h2 h3 => by
      cases us with
      | nil => exact hb4 D doc pm an cdv ct mv ws h2 h3
      | cons _ _ => cases h1)
    exact ⟨mv, b⟩
end Lk
set_option maxRecDepth 100000
set_option maxHeartbeats 4000000
namespace Lk
open PySem PySem.Spec PyProof.Rows L2
def topS (i : Nat) : Stmt := PySem.Challenge.pw_letinrow_k08_whole_who_is_left_whichever.main.body.getD i (.Pass ⟨0, 0, 0, 0⟩)
section
variable {P : Program} {w : World} {K : PySem.W.Frag} {mg : Str → Option Value} {base : Heap}
/-! ### _law_take -/
abbrev sTake : Stmt := topS 12
theorem scTake : FnScope ["_law_box_here", "_law_many", "_law_found", "_law_blend"] ["_law_box_here", "_law_many"] (defScope sTake) := ⟨rfl, rfl, rfl, by decide +kernel, rfl, by decide +kernel, by decide +kernel⟩
theorem ok_take {f : Addr} {fd : FuncData} (F : Fun K "_law_take" "_law_take" sTake f fd) : FnOk P w K mg base CX0 1 f fd ["_law_box_here", "_law_many"] spTake := by
  refine fok F scTake (fun vs H Q E h => ?_) (fun cdv A outer s H vs Q E hr h => ?_)
  · obtain ⟨b, many, rfl, _⟩ := h
    rfl
  obtain ⟨b, many, rfl, ⟨x, y, z, hb⟩, h0, h1, q⟩ := h
  refine ⟨_, pss_cons (ps_if (pt_cmpR op_gt (pe_ix ix_list (pv 0) pe_int (fun _ _ => rfl)) pe_int (nomark _))
      (pss_cons (ps_set (i := 2) scTake.nd rfl (.inl rfl) (pe_op op_mod (pe_ix ix_list (pv 0) pe_int (fun _ _ => rfl)) (pv 1)))
      (pss_cons (ps_asg (pe_op op_fdiv (pe_ix ix_list (pv 0) pe_int (fun _ _ => rfl)) (pv 1)) (pg_sub (pv 0) pe_int set_list))
      (pss_one (ps_ret (pv 2))))) pss_nil)
    (pss_cons (ps_asg (pe_op op_add (pe_ix ix_list (pv 0) pe_int (fun _ _ => rfl)) pe_int) (pg_sub (pv 0) pe_int set_list))
    (pss_cons (ps_set (i := 3) scTake.nd rfl (.inl rfl) (pe_op op_mod (pe_op op_add (pe_ix ix_list (pv 0) pe_int (fun _ _ => rfl)) (pe_op op_mul pe_int (pe_ix ix_list (pv 0) pe_int (fun _ _ => rfl)))) pe_int))
    (pss_cons (ps_set (i := 3) scTake.nd rfl (.inl rfl) (pe_op op_mod (pe_op op_add (pe_op op_add (pe_op op_mul (pv 3) (pv 3)) (pe_op op_mul pe_int (pe_ix ix_list (pv 0) pe_int (fun _ _ => rfl)))) pe_int) pe_int))
    (pss_cons (ps_set (i := 3) scTake.nd rfl (.inl rfl) (pe_op op_mod (pe_op op_add (pe_op op_mul (pv 3) (pe_op op_add (pe_op op_fdiv (pv 3) pe_int) pe_int)) (pe_ix ix_list (pv 0) pe_int (fun _ _ => rfl))) pe_int))
    (pss_one (ps_ret (pe_op op_mod (pe_op op_fdiv (pv 3) pe_int) (pv 1)))))))), ?_⟩
  have hL : SqL K H b [.int x, .int y, .int z] := .inl (.inl hb)
  refine ⟨.ref b, rfl, b, _, 0, _, rfl, rfl, hL, atI_nat (j := 0) rfl, _, _, rfl, rfl, _, rfl, ?_⟩
  refine ite2 (fun c => ?_) (fun c => ?_)
  · refine ⟨.ref b, rfl, b, _, 0, _, rfl, rfl, hL, atI_nat (j := 0) rfl, _, rfl, _, _, rfl, rfl, h0, ?_⟩
    refine ⟨.ref b, rfl, b, _, 0, _, rfl, rfl, hL, atI_nat (j := 0) rfl, _, rfl, _, _, rfl, rfl, ⟨h0, h1⟩, ?_⟩
    refine ⟨.ref b, rfl, b, _, 0, 0, rfl, rfl, hb, rfl, ?_⟩
    exact ⟨_, rfl, q _ _ Oth.upd ⟨_, _, _, upd_same⟩ (Int.emod_nonneg _ (by omega)) (Int.emod_lt_of_pos _ h0)⟩
  · refine ⟨.ref b, rfl, b, _, 2, _, rfl, rfl, hL, atI_nat (j := 2) rfl, _, _, rfl, rfl, ?_⟩
    refine ⟨.ref b, rfl, b, _, 2, 2, rfl, rfl, hb, rfl, ?_⟩
    have hU : upd H b (.lst ([.int x, .int y, .int z].set 2 (.int (z + 1)))) b = some (.lst [.int x, .int y, .int (z + 1)]) := upd_same
    have hL2 : SqL K (upd H b (.lst ([.int x, .int y, .int z].set 2 (.int (z + 1))))) b [.int x, .int y, .int (z + 1)] := .inl (.inl hU)
    refine ⟨.ref b, rfl, b, _, 1, _, rfl, rfl, hL2, atI_nat (j := 1) rfl, .ref b, rfl, b, _, 2, _, rfl, rfl, hL2, atI_nat (j := 2) rfl, _, _, rfl, rfl, .inl (by decide), _, _, rfl, rfl, _, _, rfl, rfl, (by show (0 : Int) < 2305843009213693951; decide), ?_⟩
    generalize hm1 : (y + 1442695040888963407 * (z + 1)) % 2305843009213693951 = m1
    have b1 : 0 ≤ m1 ∧ m1 < 2305843009213693951 := by
      rw [← hm1]
      exact ⟨Int.emod_nonneg _ (by decide), Int.emod_lt_of_pos _ (by decide)⟩
    refine ⟨_, rfl, _, rfl, _, _, rfl, rfl, .inl ⟨by omega, by omega⟩, .ref b, rfl, b, _, 2, _, rfl, rfl, hL2, atI_nat (j := 2) rfl, _, _, rfl, rfl, .inl (by decide), _, _, rfl, rfl, _, _, rfl, rfl, _, _, rfl, rfl, (by show (0 : Int) < 2305843009213693921; decide), ?_⟩
    generalize hm2 : (m1 * m1 + 39373 * (z + 1) + 7) % 2305843009213693921 = m2
    have b2 : 0 ≤ m2 ∧ m2 < 2305843009213693921 := by
      rw [← hm2]
      exact ⟨Int.emod_nonneg _ (by decide), Int.emod_lt_of_pos _ (by decide)⟩
    refine ⟨_, rfl, _, rfl, _, _, rfl, rfl, ⟨by decide, by decide⟩, _, _, rfl, rfl, _, _, rfl, rfl, .inl ⟨by omega, by omega⟩, .ref b, rfl, b, _, 2, _, rfl, rfl, hL2, atI_nat (j := 2) rfl, _, _, rfl, rfl, _, _, rfl, rfl, (by show (0 : Int) < 2305843009213693907; decide), ?_⟩
    generalize (m2 * (m2 / 65536 + 3) + (z + 1)) % 2305843009213693907 = m3
    refine ⟨_, rfl, _, _, rfl, rfl, ⟨by decide, by decide⟩, _, rfl, _, _, rfl, rfl, h0, ?_⟩
    exact q _ _ Oth.upd ⟨_, _, _, upd_same⟩ (Int.emod_nonneg _ (by omega)) (Int.emod_lt_of_pos _ h0)
/-! ### _law_box -/
abbrev sBox : Stmt := topS 11
theorem scBox : FnScope ["_law_cells_here", "_law_k", "_law_cell"] ["_law_cells_here", "_law_k"] (defScope sBox) := ⟨rfl, rfl, rfl, by decide +kernel, rfl, by decide +kernel, by decide +kernel⟩
theorem ok_box {f : Addr} {fd : FuncData} (B : Blt mg) (F : Fun K "_law_box" "_law_box" sBox f fd) : FnOk P w K mg base CX0 1 f fd ["_law_cells_here", "_law_k"] spBox := by
  refine fok F scBox (fun vs H Q E h => ?_) (fun cdv A outer s H vs Q E hr h => ?_)
  · obtain ⟨a, ns, k, rfl, _⟩ := h
    rfl
  obtain ⟨a, ns, k, rfl, ha, hk, hk2, q⟩ := h
  refine ⟨_, pss_cons (ps_set (i := 2) scBox.nd rfl (.inl rfl) (pe_ix ix_list (pv 0) (pv 1) (fun _ _ => rfl)))
    (pss_one (ps_ret (pe_lst (pa_cons (pe_op op_mul (pe_callB call_abs (by rfl) B.abs (by decide +kernel) (pa_cons (pv 2) pa_nil)) (pe_callTy call_int1 (by rfl) B.int (by decide +kernel) (pa_cons (pe_cmpR op_ge (pe_callB call_abs (by rfl) B.abs (by decide +kernel) (pa_cons (pv 2) pa_nil)) (pe_op op_pow pe_int pe_int) (nomark _)) pa_nil)))
      (pa_cons (pe_op op_add (pe_op op_add (pe_op op_mod (pv 2) pe_int) (pe_op op_mul pe_int (pv 1))) pe_int) (pa_cons pe_int pa_nil)))))), ?_⟩
  obtain ⟨c, hc⟩ : ∃ c, ns[k]? = some c := ⟨ns[k], List.getElem?_eq_getElem hk⟩
  refine ⟨.ref a, rfl, .int k, rfl, a, _, k, .int c, rfl, rfl, .inl (.inl ha), atI_nat (ix_map hc), ?_⟩
  refine ⟨_, rfl, _, rfl, _, rfl, _, rfl, _, _, rfl, rfl, ⟨by decide, by decide, by decide⟩, _, _, rfl, rfl, .inr ⟨_, rfl, _, _, rfl, rfl, .inr (bit01 _), ?_⟩⟩
  refine ⟨_, rfl, _, _, rfl, rfl, (by show (0 : Int) < 2305843009213693951; decide), _, rfl, _, _, rfl, rfl, .inl (by decide), _, _, rfl, rfl, _, _, rfl, rfl, (by show 3 ≤ sizeLine; decide), fun p hp => ?_⟩
  exact q p _ (same_upd hp) hp ⟨_, _, _, upd_same⟩
/-! ### _law_cells -/
abbrev sCells : Stmt := topS 13
theorem scCells : FnScope ["_law_script", "_law_utmost", "_law_cells_here", "_law_k", "_law_cell"] ["_law_script", "_law_utmost"] (defScope sCells) := ⟨rfl, rfl, rfl, by decide +kernel, rfl, by decide +kernel, by decide +kernel⟩
theorem ok_cells {f : Addr} {fd : FuncData} (B : Blt mg) (F : Fun K "_law_cells" "_law_cells" sCells f fd) : FnOk P w K mg base CX0 1 f fd ["_law_script", "_law_utmost"] (spCells K) := by
  refine fok F scCells (fun vs H Q E h => ?_) (fun cdv A outer s H vs Q E hr h => ?_)
  · obtain ⟨a, ns, k, rfl, _⟩ := h
    rfl
  obtain ⟨a, ns, u, rfl, ha, hn, h0, h3, q⟩ := h
  refine ⟨_, pss_cons (ps_set (i := 2) scCells.nd rfl (.inl rfl) (pe_orT (pe_callTy call_list_of (by rfl) B.list (by decide +kernel) (pa_cons (pe_slice sl_list (pv 0) po_none (po_some (pv 1))) pa_nil)) (pe_one (pe_lst (pa_cons pe_int pa_nil)))))
    (pss_cons (ps_for PassesOwn.never rfl (pi_enum (by rfl) B.enumerate (pa_cons (pe_slice sl_list (pv 0) (po_some (pv 1)) (po_some pe_int)) pa_nil))
        (pg_tup rfl (pgs_cons (pg_name (i := 3) scCells.nd rfl (.inl rfl)) (pgs_cons (pg_name (i := 4) scCells.nd rfl (.inl rfl)) pgs_nil)))
      (pss_one (ps_asg (pe_op op_add (pe_ix ix_list (pv 2) (pe_op op_mod (pv 3) (pv 1)) (fun _ _ => rfl)) (pe_op op_mul (pv 4) (pe_op op_add (pv 3) pe_int))) (pg_sub (pv 2) (pe_op op_mod (pv 3) (pv 1)) set_list))))
    (pss_one (ps_ret (pv 2)))), ?_⟩
  -- what follows once cells stand at c
  have rest : ∀ (c : Addr) (ms : List Int) (H1 : Hp), Same H H1 → H c = none → H1 c = some (.lst (ms.map V.int)) → 0 < ms.length → ms.length ≤ 3 → (u < ns.length → ms.length = u) → ∀ (D : Ends) , D.rt = Q → 
      (tSeq (tFor (iEnum K (tCons (tSl (rSlL K) (tVar 0) (tPart (tVar 1)) (tPart (tC (.int 63)))) tNil)) (gTup K 2 (gCons (gName 3) (gCons (gName 4) gNil))) (tAsg (tOp (rI0 fun i j => .int (i + j)) (tOp (rIxL K) (tVar 2) (tOp (rI (fun _ j => 0 < j) fun i j => .int (i % j)) (tVar 3) (tVar 1))) (tOp (rI CMul fun i j => .int (i * j)) (tVar 4) (tOp (rI0 fun i j => .int (i + j)) (tVar 3) (tC (.int 2))))) (gSub (tVar 2) (tOp (rI (fun _ j => 0 < j) fun i j => .int (i % j)) (tVar 3) (tVar 1)) rSetL))) (tRet (tVar 2))) D [some (.ref a), some (.int u), some (.ref c), none, none] H1 := by
    intro c ms H1 s1 nc hc m0 m3 mu D hD
    refine ⟨.ref a, rfl, _, rfl, u, rfl, 63, rfl, a, _, rfl, s1.seq ha, fun p hp => ?_⟩
    have s2 : Same H1 (upd H1 p (.lst (cutV (ns.map V.int) (some u) (some 63)))) := same_upd hp
    have npc : c ≠ p := ne_of_none hc hp
    rw [cutV_map]
    generalize hr2 : cutL ns (some (u : Int)) (some 63) = r2
    refine ⟨p, r2.map V.int, rfl, .inl (.inl upd_same), ?_⟩
    refine for_it (walk_enum (xs := r2.map V.int)) (fun i σ H3 => ∃ (y3 y4 : Option V) (ms' : List Int), σ = [some (.ref a), some (.int u), some (.ref c), y3, y4] ∧ Same H H3 ∧ H3 p = some (.lst (r2.map V.int)) ∧ H3 c = some (.lst (ms'.map V.int)) ∧ ms'.length = ms.length) ?_ ?_ ?_ ?_
    · exact ⟨none, none, ms, rfl, s1.trans (same_upd hp), upd_same, (upd_ne npc).trans hc, rfl⟩
    · rintro i σ H3 _ ⟨y3, y4, ms', rfl, e1, e2, e3, e4⟩
      exact .inl (.inl e2)
    · rintro i x σ H3 H4 hi ⟨y3, y4, ms', rfl, e1, e2, e3, e4⟩ ⟨T, x1, x2, rfl, nT, rfl, f1, f2⟩
      cases f1
      obtain ⟨z, hz, rfl⟩ := at_map f2
      rw [List.length_map] at hi
      have hun : u < ns.length := cutL_has (k := u) (hi := some 63) (by rw [hr2]; omega)
      have hml := mu hun
      have nTc : c ≠ T := ne_of_none e3 nT
      have nTp : p ≠ T := ne_of_none e2 nT
      refine ⟨T, _, rfl, .inl (.inl upd_same), rfl, _, _, rfl, _, _, rfl, rfl, ?_⟩
      have hlt : i % u < ms'.length := by
        rw [e4, hml]
        exact Nat.mod_lt _ h0
      have e3' : upd H3 T (.tup [.int (i : Nat), .int z]) c = some (.lst (ms'.map V.int)) := (upd_ne nTc).trans e3
      have eim : ((i : Int) % (u : Int)) = ((i % u : Nat) : Int) := (Int.natCast_emod i u).symm
      have hi2 : i < 63 := by
        have q1 := cutL_le ns (some (u : Int)) (some 63)
        rw [hr2] at q1
        omega
      refine ⟨.ref c, rfl, _, rfl, _, rfl, _, _, rfl, rfl, (by show (0 : Int) < u; omega), c, _, _, .int ms'[i % u], rfl, rfl, .inl (.inl e3'), (by rw [eim]; exact atI_nat (ix_map (List.getElem?_eq_getElem hlt))), ?_⟩
      refine ⟨_, rfl, _, rfl, _, _, rfl, rfl, _, _, rfl, rfl, .inr ⟨by omega, by omega⟩, _, _, rfl, rfl, ?_⟩
      refine ⟨.ref c, rfl, _, rfl, _, rfl, _, _, rfl, rfl, (by show (0 : Int) < u; omega), c, _, _, i % u, rfl, rfl, e3', ?_, ?_⟩
      · rw [eim, List.length_map]
        unfold ixN
        rw [if_pos (by omega), if_pos (by omega), Int.toNat_natCast]
      · refine ⟨_, _, ms'.set (i % u) (ms'[i % u] + z * ((i : Int) + 2)), rfl, fun b o e => ?_, ?_, ?_, ?_⟩
        · rw [upd_ne (ne_of_none e nc)]
          exact same_upd nT _ _ (e1 b o e)
        · rw [upd_ne (Ne.symm npc), upd_ne nTp]
          exact e2
        · rw [upd_same, ← set_map]
        · rw [List.length_set]
          exact e4
    · rintro σ H3 ⟨y3, y4, ms', rfl, e1, e2, e3, e4⟩
      refine ⟨.ref c, rfl, ?_⟩
      rw [hD]
      exact q c ms' H3 e1 nc e3 (by omega) (by omega)
  -- cells = list(script[:u]) or [0]
  refine ⟨.ref a, rfl, .int u, rfl, u, rfl, a, _, rfl, ha, fun p hp => ?_⟩
  rw [cutV_map, cutL_to]
  refine ⟨p, _, rfl, .inl (.inl (.inl upd_same)), fun l hl => ?_⟩
  have s2 : Same H (upd H p (.lst ((ns.take u).map V.int))) := same_upd hp
  have s3 := s2.trans (same_upd (o := .lst ((ns.take u).map V.int)) hl)
  refine ⟨_, .inl ⟨_, .inl (.inl upd_same), rfl⟩, ?_⟩
  refine ite2 (fun z => ?_) (fun z => ?_)
  · have hne : 0 < ns.length := by
      cases ns with
      | nil => rw [List.take_nil] at z; cases z
      | cons n r => exact Nat.succ_pos _
    refine rest l (ns.take u) _ s3 (s2.free hl) upd_same ?_ ?_ ?_ _ rfl
    · rw [List.length_take]
      omega
    · rw [List.length_take]
      omega
    · intro z
      rw [List.length_take]
      omega
  · have hne : ns.length = 0 := by
      cases ns with
      | nil => rfl
      | cons n r =>
        have e : u = (u - 1) + 1 := by omega
        rw [e, List.take_succ_cons] at z
        exact absurd rfl z
    refine ⟨(by show 1 ≤ sizeLine; decide), fun c hc => ?_⟩
    exact rest c [0] _ (s3.trans (same_upd hc)) (s3.free hc) upd_same (by decide) (by decide) (fun z => absurd z (by omega)) _ rfl
/-! ### _law_names -/
abbrev sNames : Stmt := topS 14
abbrev nNames : List Str := ["_law_box_here", "_law_many", "_law_letters", "_law_first", "_law_found", "_law_stem", "_law_step", "_law_few", "_law_k", "_law_cut", "_law_name", "_law_turn"]
theorem scNames : FnScope nNames ["_law_box_here", "_law_many"] (defScope sNames) := ⟨rfl, rfl, rfl, by decide +kernel, rfl, by decide +kernel, by decide +kernel⟩
theorem ok_names {f : Addr} {fd : FuncData} (B : Blt mg) (CT : Cal P w K mg base 1 "_law_take" ["_law_box_here", "_law_many"] spTake) (F : Fun K "_law_names" "_law_names" sNames f fd) : FnOk P w K mg base CX0 2 f fd ["_law_box_here", "_law_many"] spNames := by
  refine fok F scNames (fun vs H Q E h => ?_) (fun cdv A outer s H vs Q E hr h => ?_)
  · obtain ⟨b, many, rfl, _⟩ := h
    rfl
  obtain ⟨b, many, rfl, hb, hm, q⟩ := h
  refine ⟨_, pss_cons (ps_asg (pe_tup (pa_cons pe_str (pa_cons (pe_cal CT hr (pa_cons (pv 0) (pa_cons pe_int pa_nil))) (pa_cons (pe_lst pa_nil) pa_nil)))) (pg_tup rfl (pgs_cons (pg_name (i := 2) scNames.nd rfl (.inr rfl)) (pgs_cons (pg_name (i := 3) scNames.nd rfl (.inl rfl)) (pgs_cons (pg_name (i := 4) scNames.nd rfl (.inl rfl)) pgs_nil)))))
    (pss_cons (ps_set (i := 5) scNames.nd rfl (.inl rfl) (pe_join pe_str
      (pe_lc (own := [("_law_turn", 11)]) (g := gName 11) (tt := tYes) rfl scNames.nd (pi_range1 (by rfl) B.range (pa_cons (pe_cal CT hr (pa_cons (pv 0) (pa_cons pe_int pa_nil))) pa_nil)) (blkOk_by (N := nNames) (sc := defScope sNames) (by decide +kernel)) (fun _ _ _ _ _ => pg_name (i := 11) scNames.nd rfl (Or.inl rfl)) (fun _ _ _ _ _ => pts_nil)
        (fun _ _ _ _ _ => pe_ix ix_str (pv 2) (pe_cal CT hr (pa_cons (pv 0) (pa_cons pe_int pa_nil))) (fun _ _ => rfl)))))
    (pss_cons (ps_par (i := 6) (j := 7) (by rfl) scNames.nd rfl rfl (by decide) rfl rfl (pa_cons (pe_ix ix_list (pe_lst (pa_cons pe_int (pa_cons pe_int (pa_cons pe_int (pa_cons pe_int pa_nil))))) (pe_cal CT hr (pa_cons (pv 0) (pa_cons pe_int pa_nil))) (fun _ _ => rfl)) (pa_cons (pe_callTy call_int1 (by rfl) B.int (by decide +kernel) (pa_cons (pe_cmpR op_eq (pe_op op_mod (pv 3) pe_int) pe_int (nomark _)) pa_nil)) pa_nil)) (by rfl))
    (pss_cons (ps_for PassesOwn.never rfl (pi_range1 (by rfl) B.range (pa_cons (pv 1) pa_nil)) (pg_name (i := 8) scNames.nd rfl (.inl rfl))
      (pss_cons (ps_set (i := 9) scNames.nd rfl (.inl rfl) (pe_op op_sub (pe_callB call_len_str (by rfl) B.len PySem.boot_len (pa_cons (pv 5) pa_nil)) (pe_op op_mul (pv 7) (pe_op op_mod (pv 8) pe_int))))
      (pss_cons (ps_set (i := 10) scNames.nd rfl (.inl rfl) (pe_op op_add_str (pe_slice sl_str (pv 5) po_none (po_some (pv 9))) (pe_ix ix_str (pv 2) (pe_op op_mod (pe_op op_add (pv 3) (pe_op op_mul (pv 6) (pv 8))) pe_int) (fun _ _ => rfl))))
      (pss_one (ps_expr (pe_bm PySem.F.plainAttrs_list PySem.F.slot_list_insert PySem.F.type_list_insert mt_insert (pv 4) (pa_cons (pe_cal CT hr (pa_cons (pv 0) (pa_cons (pe_op op_add (pe_callB call_len_seq (by rfl) B.len PySem.boot_len (pa_cons (pv 4) pa_nil)) pe_int) pa_nil))) (pa_cons (pv 10) pa_nil))))))))
    (pss_one (ps_ret (pv 4)))))), ?_⟩
  -- letters, first, found
  refine ⟨.ref b, rfl, b, 26, rfl, hb, by decide, by decide, fun first H1 o1 b1 f0 f1 => ⟨(by show 0 ≤ sizeLine; decide), fun l hl => ?_⟩⟩
  refine ⟨(by show 3 ≤ sizeLine; decide), fun t ht => ?_⟩
  have nlb : l ≠ b := b1.ne_none hl
  have ntl : t ≠ l := fun z => by rw [z, upd_same] at ht; cases ht
  have ntb : t ≠ b := fun z => by
    rw [z, upd_ne (Ne.symm nlb)] at ht
    exact b1.ne_none ht rfl
  have nl : H l = none := o1.free nlb hl
  refine ⟨t, _, rfl, .inl (.inl upd_same), rfl, _, _, rfl, _, _, rfl, _, _, rfl, rfl, ?_⟩
  dsimp only
  generalize hH2 : upd (upd H1 l (.lst [])) t (.tup [.str (Str.ofString "abcdefghijklmnopqrstuvwxyz"), .int first, .ref l]) = H2
  have o2 : Oth b H H2 := o1.trans (fun a o n e => by
    rw [← hH2]
    exact same_upd ht _ _ (same_upd hl _ _ e))
  have b2 : IsBox H2 b := by
    rw [← hH2]
    exact (b1.same (same_upd hl)).same (same_upd ht)
  have l2 : H2 l = some (.lst []) := by
    rw [← hH2, upd_ne (Ne.symm ntl), upd_same]
  -- stem
  refine ⟨⟨_, rfl⟩, .ref b, rfl, b, 8, rfl, b2, by decide, by decide, fun n H3 o3 b3 n0 n1 => ⟨n, rfl, by omega, by omega, fun D hD => ?_⟩⟩
  have nDb : D ≠ b := b3.ne_none hD
  have l3 : H3 l = some (.lst []) := o3 _ _ nlb l2
  have nDl : l ≠ D := ne_of_none l3 hD
  refine lc_it (walk_range (lo := 0) (n := n.toNat)) (fun i H' => ∃ ys : List Str, Oth b H H' ∧ IsBox H' b ∧ H' l = some (.lst []) ∧ H' D = some (.lst (ys.map V.str)) ∧ ys.length = i ∧ ∀ y ∈ ys, IsOne y) ?_ (fun _ _ _ _ => trivial) ?_ ?_
  · refine ⟨[], fun a o na e => ?_, b3.same (same_upd hD), (upd_ne nDl).trans l3, upd_same, rfl, fun _ h => nomatch h⟩
    exact same_upd hD _ _ (o3 _ _ na (o2 _ _ na e))
  · rintro i x H4 H5 hi ⟨ys, o4, b4, l4, d4, y1, y2⟩ ⟨rfl, rfl⟩
    refine ⟨rfl, ⟨.str abc, rfl, .ref b, rfl, b, 26, rfl, b4, by decide, by decide, fun v H6 o6 b6 v0 v1 => ⟨abc, v, 97 + v.toNat, rfl, rfl, (by rw [abc_len]; decide), abc_ix v0 v1, ys.map V.str, o6 _ _ nDb d4, ?_, ?_⟩⟩⟩
    · rw [List.length_map]
      exact small1000 (by omega)
    · have s6 : ∀ a o, a ≠ D → H6 a = some o → upd H6 D (.lst (ys.map V.str ++ [.str ⟨#[97 + v.toNat]⟩])) a = some o := fun a o na e => by rw [upd_ne na]; exact e
      refine ⟨ys ++ [⟨#[97 + v.toNat]⟩], fun a o na e => ?_, ?_, s6 _ _ nDl (o6 _ _ nlb l4), ?_, ?_, ?_⟩
      · have q6 := o6 _ _ na (o4 _ _ na e)
        by_cases z : a = D
        · subst z
          have q3 := o3.free nDb hD
          rw [o2 _ _ na e] at q3
          cases q3
        · exact s6 _ _ z q6
      · obtain ⟨i1, i2, i3, e⟩ := b6
        exact ⟨i1, i2, i3, s6 _ _ (Ne.symm nDb) e⟩
      · rw [upd_same, List.map_append]
        rfl
      · rw [List.length_append, y1]
        rfl
      · intro y hy
        rcases List.mem_append.mp hy with z | z
        · exact y2 y z
        · have e : y = ⟨#[97 + v.toNat]⟩ := by simpa using z
          exact ⟨v.toNat, by omega, e⟩
  · rintro H4 ⟨ys, o4, b4, l4, d4, y1, y2⟩
    have z1 := ones_len y2
    refine ⟨_, D, ys, rfl, rfl, .inl (.inl (.inl d4)), ?_, ?_⟩
    · rw [z1]
      have z2 : (Str.ofString "").length = 0 := by decide +kernel
      rw [z2]
      omega
    have w1 := ones_flat y2
    rw [← join0] at w1
    generalize Txt.join (Str.ofString "") ys = stem at w1
    have w2 : (tlx stem).length ≤ 7 := by rw [w1.1]; omega
    have w3 : Low (tlx stem) := w1.2
    clear w1 z1
    -- step, few
    refine ⟨(by show 4 ≤ sizeLine; decide), fun p hp => ⟨.ref b, rfl, b, 4, rfl, b4.same (same_upd hp), by decide, by decide, fun v H5 o5 b5 v0 v1 => ?_⟩⟩
    obtain ⟨step, hst, hat⟩ := menu4 v0 v1
    have npb : p ≠ b := b4.ne_none hp
    have o5' : Oth b H H5 := fun a o na e => o5 _ _ na (same_upd hp _ _ (o4 _ _ na e))
    have l5 : H5 l = some (.lst []) := o5 _ _ nlb (same_upd hp _ _ l4)
    refine ⟨p, _, v, .int step, rfl, rfl, .inl (.inl (o5 _ _ npb upd_same)), hat, ?_⟩
    refine ⟨.int first, rfl, _, _, rfl, rfl, (by show (0 : Int) < 4; decide), rfl, .inr ⟨_, rfl, _, _, rfl, ?_⟩⟩
    generalize hk : (decide (V.int (first % 4) = V.int 3)) = kf
    have hf := bit2 kf
    generalize (if kf = true then 1 else 0 : Int) = few at hf
    -- the loop
    refine ⟨.int many, rfl, many, rfl, by omega, by omega, ?_⟩
    refine for_it (walk_range (lo := 0) (n := (many : Int).toNat)) (fun i σ H' => ∃ (y8 y9 y10 y11 : Option V) (names : List Str), σ = [some (.ref b), some (.int many), some (.str abc), some (.int first), some (.ref l), some (.str stem), some (.int step), some (.int few), y8, y9, y10, y11] ∧ Oth b H H' ∧ IsBox H' b ∧ H' l = some (.lst (names.map V.str)) ∧ names.length = i ∧ names.Nodup ∧ ∀ x ∈ names, NameOk x ∧ ∃ j : Nat, j < i ∧ lastC x = some (97 + ((first + step * (j : Int)) % 26).toNat)) ?_ (fun _ _ _ _ _ => trivial) ?_ ?_
    · exact ⟨_, _, _, _, [], rfl, o5', b5, l5, rfl, List.nodup_nil, fun _ h => nomatch h⟩
    · rintro i x σ H7 H6 hi ⟨y8, y9, y10, y11, names, rfl, o6, b6, l6, m1, m2, m3⟩ ⟨rfl, rfl⟩
      have hi2 : i < 26 := by omega
      have hsl : stem.length ≤ sizeLine := by rw [len_tlx]; exact small_le (by omega)
      refine ⟨_, rfl, _, rfl, hsl, _, rfl, _, rfl, _, _, rfl, rfl, (by show (0 : Int) < 3; decide), _, _, rfl, rfl, .inl ⟨by omega, by omega⟩, _, _, rfl, rfl, ?_⟩
      dsimp only
      generalize (stem.length : Int) - few * ((0 + (i : Int)) % 3) = cut
      have c0 : 0 ≤ (first + step * (0 + (i : Int))) % 26 := Int.emod_nonneg _ (by decide)
      have c1 : (first + step * (0 + (i : Int))) % 26 < 26 := Int.emod_lt_of_pos _ (by decide)
      refine ⟨_, rfl, _, rfl, cut, rfl, stem, rfl, hsl, _, rfl, _, rfl, _, rfl, _, rfl, _, _, rfl, rfl, ?_, _, _, rfl, rfl, _, _, rfl, rfl, (by show (0 : Int) < 26; decide), abc, _, _, rfl, rfl, (by rw [abc_len]; decide), abc_ix c0 c1, _, _, rfl, rfl, ?_, ?_⟩
      · rcases hst with rfl | rfl | rfl | rfl <;> exact .inl (by decide)
      · rw [len_tlx, cutS_tlx]
        have z := cutL_le (tlx stem) none (some cut)
        exact small_le (by show _ + 1 ≤ 1000; omega)
      rw [Int.zero_add] at c0 c1 ⊢
      have nok : NameOk (cutS stem none (some cut) ++ ⟨#[97 + ((first + step * (i : Int)) % 26).toNat]⟩) := name_ok w2 w3 (by omega)
      have nla := lastC_app (cutS stem none (some cut)) (97 + ((first + step * (i : Int)) % 26).toNat)
      generalize (cutS stem none (some cut) ++ ⟨#[97 + ((first + step * (i : Int)) % 26).toNat]⟩ : Str) = nm at nok nla
      have hnew : nm ∉ names := fun hm2 => by
        obtain ⟨_, j, hj, ej⟩ := m3 nm hm2
        rw [nla] at ej
        have q1 := Option.some.inj ej
        have q2 := apart hst hj hi2 first
        have q3 : 0 ≤ (first + step * (j : Int)) % 26 := Int.emod_nonneg _ (by decide)
        omega
      -- found.insert(take(box, len(found) + 1), name)
      have L6 : SqL K H6 l (names.map V.str) := .inl (.inl l6)
      refine ⟨.ref l, rfl, .inl ⟨rfl, _, L6⟩, .ref b, rfl, .ref l, rfl, l, _, rfl, .inl L6, _, _, rfl, rfl, b, _, rfl, b6, by omega, ?_, fun v H8 o8 b8 v0 v1 => ?_⟩
      · rw [List.length_map]
        omega
      have l8 : H8 l = some (.lst (names.map V.str)) := o8 _ _ nlb l6
      refine ⟨_, rfl, l, _, v, _, rfl, rfl, l8, ?_, v0, ?_, ?_⟩
      · rw [List.length_map]
        exact small1000 (by omega)
      · rw [List.length_map] at v1
        omega
      have pm := ins_perm names v.toNat nm
      refine ⟨_, _, _, _, names.take v.toNat ++ [nm] ++ names.drop v.toNat, rfl, fun a o na e => ?_, ?_, ?_, ?_, ?_, ?_⟩
      · have e8 := o8 _ _ na (o6 _ _ na e)
        rw [upd_ne (ne_of_none e nl)]
        exact e8
      · obtain ⟨i1, i2, i3, e⟩ := b8
        exact ⟨i1, i2, i3, (upd_ne (Ne.symm nlb)).trans e⟩
      · rw [upd_same, ins_map]
      · rw [pm.length_eq, List.length_cons, m1]
      · exact pm.nodup_iff.mpr (List.nodup_cons.mpr ⟨hnew, m2⟩)
      · intro x hx
        rcases List.mem_cons.mp (pm.mem_iff.mp hx) with rfl | hx
        · exact ⟨nok, i, Nat.lt_succ_self _, nla⟩
        · obtain ⟨z1, j, z2, z3⟩ := m3 x hx
          exact ⟨z1, j, Nat.lt_succ_of_lt z2, z3⟩
    · rintro σ H6 ⟨y8, y9, y10, y11, names, rfl, o6, b6, l6, m1, m2, m3⟩
      exact ⟨.ref l, rfl, q l names H6 o6 b6 nl l6 (by omega) m2 fun x hx => (m3 x hx).1⟩
/-! ### _law_pals -/
abbrev sPals : Stmt := topS 15
abbrev nPals : List Str := ["_law_box_here", "_law_pool", "_law_way", "_law_found", "_law_side", "_law_k", "_law_mine", "_law_j", "_law_fine", "_law_name"]
theorem scPals : FnScope nPals ["_law_box_here", "_law_pool"] (defScope sPals) := ⟨rfl, rfl, rfl, by decide +kernel, rfl, by decide +kernel, by decide +kernel⟩
theorem ok_pals {f : Addr} {fd : FuncData} (B : Blt mg) (CT : Cal P w K mg base 1 "_law_take" ["_law_box_here", "_law_many"] spTake) (F : Fun K "_law_pals" "_law_pals" sPals f fd) : FnOk P w K mg base CX0 2 f fd ["_law_box_here", "_law_pool"] spPals := by
  refine fok F scPals (fun vs H Q E h => ?_) (fun cdv A outer s H vs Q E hr h => ?_)
  · obtain ⟨b, l, pool, rfl, _⟩ := h
    rfl
  obtain ⟨b, l, pool, rfl, hb, hl, hnd, hn, q⟩ := h
  refine ⟨_, pss_cons (ps_par (i := 2) (j := 3) (by rfl) scPals.nd rfl rfl (by decide) rfl rfl (pa_cons (pe_cal CT hr (pa_cons (pv 0) (pa_cons pe_int pa_nil))) (pa_cons (pe_lst pa_nil) pa_nil)) (by rfl))
    (pss_cons (ps_setLc (i := 4) (own := [("_law_name", 9)]) (g := gName 9) (tt := tYes) rfl scPals.nd rfl rfl (sw_true rfl rfl rfl (by decide +kernel)) (pi_list (pv 1)) (blkOk_by (N := nPals) (sc := defScope sPals) (by decide +kernel)) (fun _ _ _ _ _ => pg_name (i := 9) scPals.nd rfl (Or.inl rfl)) (fun _ _ _ _ _ => pts_nil)
        (fun _ _ _ _ _ => pe_cal CT hr (pa_cons (pv 0) (pa_cons pe_int pa_nil))))
    (pss_cons (ps_for PassesOwn.never rfl (pi_enum (by rfl) B.enumerate (pa_cons (pv 1) pa_nil)) (pg_tup rfl (pgs_cons (pg_name (i := 5) scPals.nd rfl (.inl rfl)) (pgs_cons (pg_name (i := 6) scPals.nd rfl (.inl rfl)) pgs_nil)))
      (pss_one (ps_for PassesOwn.never rfl (pi_range1 (by rfl) B.range (pa_cons (pv 5) pa_nil)) (pg_name (i := 7) scPals.nd rfl (.inl rfl))
        (pss_cons (ps_set (i := 8) scPals.nd rfl (.inl rfl) (pe_mid (pe_ix ix_list (pe_lst (pa_cons (pe_cmpR op_eq (pe_cal CT hr (pa_cons (pv 0) (pa_cons pe_int pa_nil))) pe_int (nomark _)) (pa_cons (pe_cmpR op_eq (pe_cal CT hr (pa_cons (pv 0) (pa_cons pe_int pa_nil))) pe_int (nomark _)) (pa_cons (pe_cmpR op_gt (pe_cal CT hr (pa_cons (pv 0) (pa_cons pe_int pa_nil))) pe_int (nomark _)) pa_nil)))) (pe_op op_mod (pv 2) pe_int) (fun _ _ => rfl))))
        (pss_cons (ps_set (i := 8) scPals.nd rfl (.inl rfl) (pe_mid (pe_ifExp (pt_cmpR op_eq (pv 2) pe_int (nomark _)) (pe_cmpR op_eq (pe_ix ix_list (pv 4) (pv 5) (fun _ _ => rfl)) (pe_ix ix_list (pv 4) (pv 7) (fun _ _ => rfl)) (nomark _)) (pv 8))))
        (pss_one (ps_if (pt_val (pv 8)) (pss_one (ps_expr (pe_bm PySem.F.plainAttrs_list PySem.F.slot_list_append PySem.F.type_list_append mt_append (pv 3) (pa_cons (pe_tup (pa_cons (pe_callB (call_minS rfl) (by rfl) B.min (by decide +kernel) (pa_cons (pv 6) (pa_cons (pe_ix ix_list (pv 1) (pv 7) (fun _ _ => rfl)) pa_nil))) (pa_cons (pe_callB (call_maxS rfl) (by rfl) B.max (by decide +kernel) (pa_cons (pv 6) (pa_cons (pe_ix ix_list (pv 1) (pv 7) (fun _ _ => rfl)) pa_nil))) pa_nil))) pa_nil)))) pss_nil)))))))
    (pss_one (ps_ret (pe_callTy call_tuple_of (by rfl) B.tuple (by decide +kernel) (pa_cons (pe_callB (cr_sortedTT hr.units) (by rfl) B.sorted (by decide +kernel) (pa_cons (pv 3) pa_nil)) pa_nil)))))), ?_⟩
  have nlb : l ≠ b := hb.ne_strs hl
  -- way, found
  refine ⟨.ref b, rfl, b, 6, rfl, hb, by decide, by decide, fun way H1 o1 b1 w0 w1 => ⟨(by show 0 ≤ sizeLine; decide), fun fa hfa => ⟨_, _, rfl, ?_⟩⟩⟩
  have nfb : fa ≠ b := b1.ne_none hfa
  have nf : H fa = none := o1.free nfb hfa
  have l1 : H1 l = some (.lst (pool.map V.str)) := o1 _ _ nlb hl
  have nlf : l ≠ fa := ne_of_none l1 hfa
  have l2 : upd H1 fa (.lst []) l = some (.lst (pool.map V.str)) := (upd_ne nlf).trans l1
  have b2 : IsBox (upd H1 fa (.lst [])) b := b1.same (same_upd hfa)
  have o2 : Oth b H (upd H1 fa (.lst [])) := o1.trans (Oth.of (same_upd hfa))
  have f2 : upd H1 fa (.lst []) fa = some (.lst []) := upd_same
  dsimp only
  generalize upd H1 fa (.lst []) = H2 at *
  -- side
  refine ⟨.ref l, rfl, l, rfl, ⟨_, .inl (.inl l2)⟩, fun sa hsa => ?_⟩
  have nsb : sa ≠ b := b2.ne_none hsa
  have nsl : l ≠ sa := ne_of_none l2 hsa
  have nsf : fa ≠ sa := ne_of_none f2 hsa
  have ns : H sa = none := o2.free nsb hsa
  refine lc_it (walk_list (xs := pool.map V.str)) (fun i H' => ∃ sd : List Int, Oth b H H' ∧ IsBox H' b ∧ H' l = some (.lst (pool.map V.str)) ∧ H' fa = some (.lst []) ∧ H' sa = some (.lst (sd.map V.int)) ∧ sd.length = i) ?_ ?_ ?_ ?_
  · exact ⟨[], o2.trans (Oth.of (same_upd hsa)), b2.same (same_upd hsa), (upd_ne nsl).trans l2, (upd_ne nsf).trans f2, upd_same, rfl⟩
  · rintro i H' _ ⟨sd, _, _, e, _⟩
    exact .inl (.inl e)
  · rintro i x H4 H3 hi ⟨sd, o3, b3, l3, f3, s3, m3⟩ ⟨rfl, _⟩
    rw [List.length_map] at hi
    refine ⟨rfl, ⟨.ref b, rfl, b, 3, rfl, b3, by decide, by decide, fun v H5 o5 b5 v0 v1 => ⟨sd.map V.int, o5 _ _ nsb s3, ?_, ?_⟩⟩⟩
    · rw [List.length_map]
      exact small1000 (by omega)
    · refine ⟨sd ++ [v], fun a o na e => ?_, ?_, (upd_ne nsl).trans (o5 _ _ nlb l3), (upd_ne nsf).trans (o5 _ _ nfb f3), ?_, ?_⟩
      · rw [upd_ne (ne_of_none e ns)]
        exact o5 _ _ na (o3 _ _ na e)
      · obtain ⟨i1, i2, i3, e⟩ := b5
        exact ⟨i1, i2, i3, (upd_ne (Ne.symm nsb)).trans e⟩
      · rw [upd_same, List.map_append]
        rfl
      · rw [List.length_append, m3]
        rfl
  rintro H3 ⟨sd, o3, b3, l3, f3, s3, m3⟩
  rw [List.length_map] at m3
  -- the loops
  have hw : way = 0 ∨ way = 1 ∨ way = 2 ∨ way = 3 ∨ way = 4 ∨ way = 5 := by omega
  refine ⟨.ref l, rfl, l, _, rfl, .inl (.inl l3), ?_⟩
  refine for_it (walk_enum (xs := pool.map V.str)) (fun i σ H' => ∃ (y5 y6 y7 y8 y9 : Option V) (bs : List B3), σ = [some (.ref b), some (.ref l), some (.int way), some (.ref fa), some (.ref sa), y5, y6, y7, y8, y9] ∧ Oth b H H' ∧ IsBox H' b ∧ H' l = some (.lst (pool.map V.str)) ∧ H' fa = some (.lst (refs bs)) ∧ H' sa = some (.lst (sd.map V.int)) ∧ PairsAt H' bs ∧ OfPool pool (bs.map (·.2)) ∧ bs.length ≤ 26 * i) ?_ ?_ ?_ ?_
  · exact ⟨_, _, _, _, _, [], rfl, o3, b3, l3, f3, s3, (fun _ h => nomatch h), (fun _ h => nomatch h), Nat.zero_le _⟩
  · rintro i σ H' _ ⟨y5, y6, y7, y8, y9, bs, _, _, _, e, _⟩
    exact .inl (.inl e)
  · rintro i x σ H4 H5 hi ⟨y5, y6, y7, y8, y9, bs, rfl, o4, b4, l4, f4, s4, p4, g4, c4⟩ ⟨T, x1, x2, rfl, nT, rfl, e1, e2⟩
    rw [List.length_map] at hi
    cases e1
    obtain ⟨mine, hmine, rfl⟩ := at_map e2
    have sT : Same H4 (upd H4 T (.tup [.int (i : Nat), .str mine])) := same_upd nT
    refine ⟨T, _, rfl, .inl (.inl upd_same), rfl, _, _, rfl, _, _, rfl, rfl, ?_⟩
    refine ⟨_, rfl, i, rfl, by omega, by omega, ?_⟩
    refine for_it (walk_range (lo := 0) (n := (i : Int).toNat)) (fun j σ H' => ∃ (y7 y8 y9 : Option V) (bs : List B3), σ = [some (.ref b), some (.ref l), some (.int way), some (.ref fa), some (.ref sa), some (.int i), some (.str mine), y7, y8, y9] ∧ Oth b H H' ∧ IsBox H' b ∧ H' l = some (.lst (pool.map V.str)) ∧ H' fa = some (.lst (refs bs)) ∧ H' sa = some (.lst (sd.map V.int)) ∧ PairsAt H' bs ∧ OfPool pool (bs.map (·.2)) ∧ bs.length ≤ 26 * i + j) ?_ (fun _ _ _ _ _ => trivial) ?_ ?_
    · exact ⟨_, _, _, bs, rfl, o4.trans (Oth.of sT), b4.same sT, sT _ _ l4, sT _ _ f4, sT _ _ s4, p4.same sT, g4, by omega⟩
    · rintro j x σ H7 H6 hj ⟨y7, y8, y9, bs, rfl, o6, b6, l6, f6, s6, p6, g6, c6⟩ ⟨rfl, rfl⟩
      have hj2 : j < i := by omega
      obtain ⟨sj, hsj⟩ : ∃ v, sd[j]? = some v := ⟨sd[j]'(by omega), List.getElem?_eq_getElem _⟩
      obtain ⟨si, hsi⟩ : ∃ v, sd[i]? = some v := ⟨sd[i]'(by omega), List.getElem?_eq_getElem _⟩
      obtain ⟨pj, hpj⟩ : ∃ v, pool[j]? = some v := ⟨pool[j]'(by omega), List.getElem?_eq_getElem _⟩
      -- fine, by a draw
      refine ⟨fun v H8 => (∃ fb : Bool, v = .bl fb) ∧ Oth b H6 H8 ∧ IsBox H8 b, ?_, ?_⟩
      · refine ⟨.ref b, rfl, b, 4, rfl, b6, by decide, by decide, fun v1 h1 q1 c1 _ _ => ⟨rfl, .ref b, rfl, b, 2, rfl, c1, by decide, by decide, fun v2 h2 q2 c2 _ _ => ⟨rfl, .ref b, rfl, b, 4, rfl, c2, by decide, by decide, fun v3 h3 q3 c3 _ _ => ⟨_, _, rfl, rfl, (by show 3 ≤ sizeLine; decide), fun p hp => ?_⟩⟩⟩⟩
        have k0 : 0 ≤ way % 3 := Int.emod_nonneg _ (by decide)
        have k1 : way % 3 < 3 := Int.emod_lt_of_pos _ (by decide)
        have ox : Oth b H6 (upd h3 p (.lst [.bl (decide (V.int v1 = V.int 0)), .bl (decide (V.int v2 = V.int 0)), .bl (decide (v3 > 0))])) := ((q1.trans q2).trans q3).trans (Oth.of (same_upd hp))
        have bx : IsBox (upd h3 p (.lst [.bl (decide (V.int v1 = V.int 0)), .bl (decide (V.int v2 = V.int 0)), .bl (decide (v3 > 0))])) b := c3.same (same_upd hp)
        have km : way % 3 = ((0 : Nat) : Int) ∨ way % 3 = ((1 : Nat) : Int) ∨ way % 3 = ((2 : Nat) : Int) := by omega
        rcases km with km | km | km
        · exact ⟨_, rfl, _, _, rfl, rfl, (by show (0 : Int) < 3; decide), p, _, _, _, rfl, rfl, .inl (.inl upd_same), (by rw [km]; exact atI_nat (j := 0) rfl), ⟨_, rfl⟩, ox, bx⟩
        · exact ⟨_, rfl, _, _, rfl, rfl, (by show (0 : Int) < 3; decide), p, _, _, _, rfl, rfl, .inl (.inl upd_same), (by rw [km]; exact atI_nat (j := 1) rfl), ⟨_, rfl⟩, ox, bx⟩
        · exact ⟨_, rfl, _, _, rfl, rfl, (by show (0 : Int) < 3; decide), p, _, _, _, rfl, rfl, .inl (.inl upd_same), (by rw [km]; exact atI_nat (j := 2) rfl), ⟨_, rfl⟩, ox, bx⟩
      rintro v H8 ⟨⟨fb, rfl⟩, o8, b8⟩
      have l8 := o8 _ _ nlb l6
      have f8 := o8 _ _ nfb f6
      have s8 := o8 _ _ nsb s6
      have p8 := p6.oth o8 b6
      have o8' := o6.trans o8
      -- fine, by sides
      refine ⟨fun v H9 => (∃ fb : Bool, v = .bl fb) ∧ H9 = H8, ?_, ?_⟩
      · refine ⟨_, rfl, rfl, _, rfl, ite2 (fun _ => ?_) (fun _ => ?_)⟩
        · exact ⟨_, rfl, _, rfl, sa, _, _, _, rfl, rfl, .inl (.inl s8), atI_nat (ix_map hsi), _, rfl, _, rfl, sa, _, _, _, rfl, rfl, .inl (.inl s8), (by rw [Int.zero_add]; exact atI_nat (ix_map hsj)), rfl, ⟨_, rfl⟩, rfl⟩
        · exact ⟨_, rfl, ⟨_, rfl⟩, rfl⟩
      rintro v H9 ⟨⟨fb2, rfl⟩, rfl⟩
      refine ⟨_, rfl, fb2, rfl, ite2 (fun _ => ?_) (fun _ => ?_)⟩
      · refine ⟨.ref fa, rfl, .inl ⟨rfl, _, .inl (.inl f8)⟩, _, rfl, _, rfl, _, rfl, l, _, _, _, rfl, rfl, .inl (.inl l8), (by rw [Int.zero_add]; exact atI_nat (ix_map hpj)), _, _, rfl, _, rfl, _, rfl, _, rfl, l, _, _, _, rfl, rfl, .inl (.inl l8), (by rw [Int.zero_add]; exact atI_nat (ix_map hpj)), _, _, rfl, (by show 2 ≤ sizeLine; decide), fun t ht => ?_⟩
        have st : Same H9 (upd H9 t (.tup [.str (lmin mine pj), .str (lmax mine pj)])) := same_upd ht
        have f9 := st _ _ f8
        have ntf : t ≠ fa := (ne_of_none f8 ht).symm
        refine ⟨fa, _, _, rfl, rfl, f9, ?_, ?_⟩
        · show (bs.map _).length < _
          rw [List.length_map]
          exact small1000 (by omega)
        · refine ⟨_, _, _, bs ++ [(t, lmin mine pj, lmax mine pj)], rfl, fun a o na e => ?_, ?_, ?_, ?_, ?_, ?_, ?_, ?_⟩
          · rw [upd_ne (ne_of_none e nf)]
            exact st _ _ (o8' _ _ na e)
          · obtain ⟨i1, i2, i3, e⟩ := b8
            exact ⟨i1, i2, i3, (upd_ne (Ne.symm nfb)).trans (st _ _ e)⟩
          · exact (upd_ne nlf).trans (st _ _ l8)
          · rw [upd_same]
            show _ = some (HO.lst ((bs ++ [_]).map _))
            rw [List.map_append]
            rfl
          · exact (upd_ne (Ne.symm nsf)).trans (st _ _ s8)
          · intro c hc
            rcases List.mem_append.mp hc with z | z
            · have e := st _ _ (p8 c z)
              rw [upd_ne (ne_of e f9 (fun z => nomatch z))]
              exact e
            · have ec : c = (t, lmin mine pj, lmax mine pj) := by simpa using z
              rw [ec]
              exact (upd_ne ntf).trans upd_same
          · rw [List.map_append]
            intro p hp
            rcases List.mem_append.mp hp with z | z
            · exact g6 p z
            · have ep : p = (lmin mine pj, lmax mine pj) := by simpa using z
              refine ⟨mine, pj, List.mem_of_getElem? hmine, List.mem_of_getElem? hpj, fun z => ?_, ep⟩
              rw [← z] at hpj
              have := nd_ix hnd hmine hpj
              omega
          · rw [List.length_append]
            show bs.length + 1 ≤ _
            omega
      · exact ⟨_, _, _, bs, rfl, o8', b8, l8, f8, s8, p8, g6, by omega⟩
    · rintro σ H6 ⟨y7, y8, y9, bs, rfl, o6, b6, l6, f6, s6, p6, g6, c6⟩
      exact ⟨_, _, _, _, _, bs, rfl, o6, b6, l6, f6, s6, p6, g6, by omega⟩
  · rintro σ H4 ⟨y5, y6, y7, y8, y9, bs, rfl, o4, b4, l4, f4, s4, p4, g4, c4⟩
    rw [List.length_map] at c4
    refine ⟨_, rfl, fa, bs, rfl, .inl (.inl f4), p4, fun p hp => ?_⟩
    have s5 : Same H4 (upd H4 p (.lst ((bs.mergeSort (PySem.W.dataLe false encP)).map fun b => V.ref b.1))) := same_upd hp
    refine ⟨p, _, rfl, .inl ⟨.inl (.inl upd_same), fun a ha => ?_⟩⟩
    have s6 := s5.trans (same_upd (o := .tup ((bs.mergeSort (PySem.W.dataLe false encP)).map fun b => V.ref b.1)) ha)
    have nab : a ≠ b := (b4.same s5).ne_none ha
    have pm := List.mergeSort_perm bs (PySem.W.dataLe false encP)
    refine q a (bs.mergeSort (PySem.W.dataLe false encP)) _ (o4.trans (Oth.of s6)) (b4.same s6) (o4.free nab (s5.free ha)) upd_same (fun c hc => s6 _ _ (p4 c (pm.mem_iff.mp hc))) (fun p' hp' => g4 p' ((pm.map _).mem_iff.mp hp')) ?_ ⟨bs, rfl⟩
    rw [pm.length_eq]
    omega
/-! ### _law_are -/
abbrev sAre : Stmt := topS 16
theorem scAre : FnScope ["_law_pals_here", "_law_mine", "_law_its"] ["_law_pals_here", "_law_mine", "_law_its"] (defScope sAre) := ⟨rfl, rfl, rfl, by decide +kernel, rfl, by decide +kernel, by decide +kernel⟩
theorem ok_are {f : Addr} {fd : FuncData} (B : Blt mg) (F : Fun K "_law_are" "_law_are" sAre f fd) : FnOk P w K mg base CX0 1 f fd ["_law_pals_here", "_law_mine", "_law_its"] spAre := by
  refine fok F scAre (fun vs H Q E h => ?_) (fun cdv A outer s H vs Q E hr h => ?_)
  · obtain ⟨a, ps, x, y, rfl, _⟩ := h
    rfl
  obtain ⟨a, ps, x, y, rfl, ha, ho, gx, gy, q⟩ := h
  refine ⟨_, pss_one (ps_ret (pe_cmpR (op_inT (u65 hr)) (pe_tup (pa_cons (pe_callB (call_minS rfl) (by rfl) B.min (by decide +kernel) (pa_cons (pv 1) (pa_cons (pv 2) pa_nil))) (pa_cons (pe_callB (call_maxS rfl) (by rfl) B.max (by decide +kernel) (pa_cons (pv 1) (pa_cons (pv 2) pa_nil))) pa_nil))) (pv 0) (by rfl))), ?_⟩
  refine ⟨_, rfl, _, rfl, _, _, rfl, _, rfl, _, rfl, _, _, rfl, (by show 2 ≤ sizeLine; decide), fun t ht => ?_⟩
  have st : Same H (upd H t (.tup [.str (lmin x y), .str (lmax x y)])) := same_upd ht
  refine ⟨_, rfl, _, _, dp_tuple (xs := [lmin x y, lmax x y]) upd_same, dp_pals (ha.same st), sh_pair (p := (lmin x y, lmax x y)) ⟨lmin_good gx gy, lmax_good gx gy⟩, sh_pals ho.good, ?_⟩
  have e := any_pair ps (lmin x y, lmax x y)
  rw [frd_pair ho] at e
  have e2 : ((ps.map encQ).any fun z => PyData.eqv z (.tuple ([lmin x y, lmax x y].map .str))) = frd ps x y := e
  rw [e2]
  exact q _ st
/-! ### _law_come -/
abbrev sCome : Stmt := topS 17
abbrev nCome : List Str := ["_law_pals_here", "_law_stand", "_law_name", "_law_spot", "_law_k", "_law_its", "_law_known"]
theorem scCome : FnScope nCome ["_law_pals_here", "_law_stand", "_law_name"] (defScope sCome) := ⟨rfl, rfl, rfl, by decide +kernel, rfl, by decide +kernel, by decide +kernel⟩
theorem ok_come {f : Addr} {fd : FuncData} (B : Blt mg) (CA : Cal P w K mg base 1 "_law_are" ["_law_pals_here", "_law_mine", "_law_its"] spAre) (F : Fun K "_law_come" "_law_come" sCome f fd) : FnOk P w K mg base CX0 2 f fd ["_law_pals_here", "_law_stand", "_law_name"] spCome := by
  refine fok F scCome (fun vs H Q E h => ?_) (fun cdv A outer s H vs Q E hr h => ?_)
  · obtain ⟨a, t, ps, stand, x, rfl, _⟩ := h
    rfl
  obtain ⟨a, t, ps, stand, x, rfl, ha, ho, ht, gs, gx, hn, q⟩ := h
  refine ⟨_, pss_cons (ps_set (i := 3) scCome.nd rfl (.inl rfl) (pe_callB call_len_seq (by rfl) B.len PySem.boot_len (pa_cons (pv 1) pa_nil)))
    (pss_cons (ps_for PassesOwn.never rfl (pi_enumT (by rfl) B.enumerate (pa_cons (pv 1) pa_nil)) (pg_tup rfl (pgs_cons (pg_name (i := 4) scCome.nd rfl (.inl rfl)) (pgs_cons (pg_name (i := 5) scCome.nd rfl (.inl rfl)) pgs_nil)))
      (pss_one (ps_if (pt_val (pe_cal CA hr (pa_cons (pv 0) (pa_cons (pv 2) (pa_cons (pv 5) pa_nil))))) (pss_one (ps_set (i := 3) scCome.nd rfl (.inl rfl) (pe_op op_add (pv 4) pe_int))) pss_nil)))
    (pss_cons (ps_setLc (i := 6) (own := [("_law_its", 5)]) (g := gName 5) (tt := tB (tCall spAre [] E0 (tCons (tVar 0) (tCons (tVar 2) (tCons (tVar 5) tNil))))) rfl scCome.nd rfl rfl (sw_true rfl rfl rfl (by decide +kernel)) (pi_tup (pv 1)) (blkOk_by (N := nCome) (sc := defScope sCome) (by decide +kernel)) (fun _ _ _ _ _ => pg_name (i := 5) scCome.nd rfl (Or.inl rfl))
        (fun _ _ _ _ _ => pts_one (pt_val (pe_cal CA hr (pa_cons (pv 0) (pa_cons (pv 2) (pa_cons (pv 5) pa_nil)))))) (fun _ _ _ _ _ => pv 5))
    (pss_cons (ps_set (i := 3) scCome.nd rfl (.inl rfl) (pe_mid (pe_ifExp (pt_cmpR (op_neNil hr.units) (pv 6) (pe_lst pa_nil) (nomark _)) (pv 3) (pe_callB call_len_seq (by rfl) B.len PySem.boot_len (pa_cons (pv 1) pa_nil)))))
    (pss_one (ps_ret (pe_op op_catM (pe_op op_catM (pe_slice sl_tupM (pv 1) po_none (po_some (pv 3))) (pe_tupF (pa_cons (pv 2) pa_nil))) (pe_slice sl_tupM (pv 1) (po_some (pv 3)) po_none))))))), ?_⟩
  -- spot = len(stand)
  refine ⟨.ref t, rfl, t, _, rfl, .inr ht.sq, ?_⟩
  rw [List.length_map]
  -- the loop
  refine ⟨.ref t, rfl, t, _, rfl, ht.sq, ?_⟩
  refine for_it (walk_enumT (xs := stand.map V.str)) (fun i σ H' => ∃ (y4 y5 y6 : Option V), σ = [some (.ref a), some (.ref t), some (.str x), some (.int (match lastP (frd ps x) (stand.take i) with | some k => ((k + 1 : Nat) : Int) | none => (stand.length : Int))), y4, y5, y6] ∧ Same H H') ?_ ?_ ?_ ?_
  · exact ⟨_, _, _, rfl, Same.refl H⟩
  · rintro i σ H' _ ⟨y4, y5, y6, _, s1⟩
    exact (ht.same s1).sq
  · rintro i v σ H1 H2 hi ⟨y4, y5, y6, rfl, s1⟩ ⟨T, x1, x2, rfl, nT, rfl, e1, e2⟩
    cases e1
    obtain ⟨its, hits, rfl⟩ := at_map e2
    have s2 := s1.trans (same_upd (o := .tup [.int (i : Nat), .str its]) nT)
    refine ⟨T, _, rfl, .inl (.inl upd_same), rfl, _, _, rfl, _, _, rfl, rfl, ?_⟩
    refine ⟨_, rfl, _, rfl, _, rfl, a, ps, x, its, rfl, ha.same s2, ho, gx, gs.at_ hits, fun H3 s3 => ⟨_, rfl, ?_⟩⟩
    have lt := lastP_take (frd ps x) hits
    refine ite2 (fun c => ?_) (fun c => ?_)
    · rw [if_pos c] at lt
      refine ⟨_, rfl, _, _, rfl, rfl, some (.int (i : Nat)), some (.str its), y6, ?_, s2.trans s3⟩
      rw [lt]
      rfl
    · rw [if_neg c] at lt
      refine ⟨some (.int (i : Nat)), some (.str its), y6, ?_, s2.trans s3⟩
      rw [lt]
      rfl
  rintro σ H1 ⟨y4, y5, y6, rfl, s1⟩
  rw [List.length_map, List.take_of_length_le (Nat.le_refl _)]
  -- known
  refine ⟨.ref t, rfl, t, rfl, ⟨_, (ht.same s1).sq⟩, fun D hD => ?_⟩
  have nD : H D = none := s1.free hD
  refine lc_it (walk_tup (xs := stand.map V.str)) (fun i H' => Same H H' ∧ H' D = some (.lst (((stand.take i).filter (frd ps x)).map V.str))) ?_ ?_ ?_ ?_
  · exact ⟨s1.trans (same_upd hD), upd_same⟩
  · rintro i H' _ ⟨s2, _⟩
    exact (ht.same s2).sq
  · rintro i v H3 H2 hi ⟨s2, d2⟩ ⟨rfl, e2⟩
    obtain ⟨its, hits, rfl⟩ := at_map e2
    rw [List.length_map] at hi
    have ft : (stand.take (i + 1)).filter (frd ps x) = (stand.take i).filter (frd ps x) ++ if frd ps x its = true then [its] else [] := by
      rw [List.take_add_one, hits, List.filter_append]
      show _ ++ List.filter (frd ps x) [its] = _
      rw [List.filter_cons, List.filter_nil]
    refine ⟨rfl, _, rfl, _, rfl, _, rfl, a, ps, x, its, rfl, ha.same s2, ho, gx, gs.at_ hits, fun H4 s4 => ⟨_, rfl, ?_⟩⟩
    refine ite2 (fun c => ?_) (fun c => ?_)
    · rw [if_pos c] at ft
      refine ⟨_, rfl, _, s4 _ _ d2, ?_, fun b o e => ?_, ?_⟩
      · rw [List.length_map]
        exact small1000 (Nat.le_trans (List.length_filter_le _ _) (by rw [List.length_take]; omega))
      · rw [upd_ne (ne_of_none e nD)]
        exact s4 _ _ (s2 _ _ e)
      · rw [upd_same, ft, List.map_append]
        rfl
    · rw [if_neg c, List.append_nil] at ft
      exact ⟨s2.trans s4, by rw [ft]; exact s4 _ _ d2⟩
  rintro H2 ⟨s2, d2⟩
  rw [List.length_map, List.take_of_length_le (Nat.le_refl _)] at d2
  have t2 := ht.same s2
  -- spot
  refine ⟨fun v H' => v = .int (spotOf ps stand x : Nat) ∧ Same H H', ?_, ?_⟩
  · refine ⟨_, rfl, (by show 0 ≤ sizeLine; decide), fun p hp => ⟨D, p, _, rfl, rfl, same_upd hp _ _ d2, upd_same, gs.filter, _, rfl, ?_⟩⟩
    have s3 := s2.trans (same_upd (o := .lst []) hp)
    unfold spotOf
    refine ite2 (fun c => ?_) (fun c => ?_)
    · refine ⟨_, rfl, ?_, s3⟩
      cases e : lastP (frd ps x) stand with
      | none =>
        exact absurd (lastP_nil.mp e) (of_decide_eq_false (by simpa using c))
      | some k => rfl
    · refine ⟨.ref t, rfl, t, _, rfl, .inr (t2.same (same_upd hp)).sq, ?_, s3⟩
      rw [List.length_map]
      cases e : lastP (frd ps x) stand with
      | none => rfl
      | some k =>
        have z : ¬ stand.filter (frd ps x) = [] := fun z => by rw [lastP_nil.mpr z] at e; cases e
        rw [decide_eq_false z] at c
        first | exact absurd rfl c | exact c.elim rfl | skip
  rintro v H3 ⟨rfl, s3⟩
  have t3 := ht.same s3
  refine ⟨.ref t, rfl, _, rfl, _, rfl, t, _, rfl, t3, fun t1 H4 s4 e4 => ?_⟩
  rw [cutV_map, cutL_to] at e4
  refine ⟨_, rfl, (by show 1 ≤ sizeLine; decide), fun p Hp sp hp tp => ?_⟩
  refine ⟨t1, p, _, _, rfl, rfl, e4.same sp, tp, ?_, fun t5 H5 s5 e5 => ?_⟩
  · rw [List.length_map, List.length_take]
    exact small_le (by show _ + 1 ≤ 1000; omega)
  have s35 := (s4.trans sp).trans s5
  refine ⟨.ref t, rfl, _, rfl, _, rfl, t, _, rfl, t3.same s35, fun t6 H6 s6 e6 => ?_⟩
  rw [cutV_map, cutL_from] at e6
  refine ⟨t5, t6, _, _, rfl, rfl, e5.same s6, e6, ?_, fun t7 H7 s7 e7 => ?_⟩
  · rw [List.length_append, List.length_map, List.length_map, List.length_take, List.length_drop]
    exact small_le (by show _ + 1 + _ ≤ 1000; omega)
  refine q t7 H7 ((s3.trans s35).trans (s6.trans s7)) ?_
  unfold comeTo
  rw [List.map_append, List.map_append]
  exact e7
/-! ### _law_stand_of, _law_strewn, _law_thinned, _law_fine_stand, _law_any_stand -/
abbrev sStandOf : Stmt := topS 18
abbrev nStandOf : List Str := ["_law_pals_here", "_law_some", "_law_stand", "_law_name"]
theorem scStandOf : FnScope nStandOf ["_law_pals_here", "_law_some"] (defScope sStandOf) := ⟨rfl, rfl, rfl, by decide +kernel, rfl, by decide +kernel, by decide +kernel⟩
theorem ok_standOf {f : Addr} {fd : FuncData} (CC : Cal P w K mg base 2 "_law_come" ["_law_pals_here", "_law_stand", "_law_name"] spCome) (F : Fun K "_law_stand_of" "_law_stand_of" sStandOf f fd) : FnOk P w K mg base CX0 3 f fd ["_law_pals_here", "_law_some"] spStandOf := by
  refine fok F scStandOf (fun vs H Q E h => ?_) (fun cdv A outer s H vs Q E hr h => ?_)
  · obtain ⟨a, l, ps, so, rfl, _⟩ := h
    rfl
  obtain ⟨a, l, ps, so, rfl, ha, ho, hl, gs, hn, q⟩ := h
  refine ⟨_, pss_cons (ps_set (i := 2) scStandOf.nd rfl (.inl rfl) (pe_tupF pa_nil))
    (pss_cons (ps_for PassesOwn.never rfl (pi_list (pv 1)) (pg_name (i := 3) scStandOf.nd rfl (.inl rfl))
      (pss_one (ps_set (i := 2) scStandOf.nd rfl (.inl rfl) (pe_cal CC hr (pa_cons (pv 0) (pa_cons (pv 2) (pa_cons (pv 3) pa_nil)))))))
    (pss_one (ps_ret (pv 2)))), ?_⟩
  refine ⟨(by show 0 ≤ sizeLine; decide), fun p Hp sp hp tp => ?_⟩
  refine ⟨.ref l, rfl, l, rfl, ⟨_, .inl (.inl (sp _ _ hl))⟩, ?_⟩
  refine for_it (walk_list (xs := so.map V.str)) (fun i σ H' => ∃ (t : Addr) (y3 : Option V), σ = [some (.ref a), some (.ref l), some (.ref t), y3] ∧ Same H H' ∧ TupAt H' t ((standOf ps (so.take i)).map V.str)) ?_ ?_ ?_ ?_
  · exact ⟨p, _, rfl, sp, tp⟩
  · rintro i σ H' _ ⟨t, y3, _, s1, _⟩
    exact .inl (.inl (s1 _ _ hl))
  · rintro i v σ H2 H1 hi ⟨t, y3, rfl, s1, e1⟩ ⟨rfl, e2⟩
    rw [List.length_map] at hi
    obtain ⟨x, hx, rfl⟩ := at_map e2
    have pm := stand_perm ps (so.take i)
    have gst : Goods (standOf ps (so.take i)) := Goods.perm (fun y hy => gs y (List.mem_of_mem_take hy)) pm
    refine ⟨_, rfl, _, rfl, _, rfl, a, t, ps, _, x, rfl, ha.same s1, ho, e1, gst, gs.at_ hx, ?_, fun t' H3 s3 e3 => ?_⟩
    · rw [pm.length_eq, List.length_take]
      omega
    · refine ⟨t', _, rfl, s1.trans s3, ?_⟩
      rw [List.take_add_one, hx]
      show TupAt H3 t' ((standOf ps (so.take i ++ [x])).map V.str)
      rw [standOf_app]
      exact e3
  · rintro σ H1 ⟨t, y3, rfl, s1, e1⟩
    rw [List.length_map, List.take_of_length_le (Nat.le_refl _)] at e1
    exact ⟨.ref t, rfl, q t H1 s1 e1⟩
abbrev sStrewn : Stmt := topS 19
abbrev nStrewn : List Str := ["_law_box_here", "_law_some", "_law_found", "_law_name"]
theorem scStrewn : FnScope nStrewn ["_law_box_here", "_law_some"] (defScope sStrewn) := ⟨rfl, rfl, rfl, by decide +kernel, rfl, by decide +kernel, by decide +kernel⟩
theorem ok_strewn {f : Addr} {fd : FuncData} (B : Blt mg) (CT : Cal P w K mg base 1 "_law_take" ["_law_box_here", "_law_many"] spTake) (F : Fun K "_law_strewn" "_law_strewn" sStrewn f fd) : FnOk P w K mg base CX0 2 f fd ["_law_box_here", "_law_some"] spStrewn := by
  refine fok F scStrewn (fun vs H Q E h => ?_) (fun cdv A outer s H vs Q E hr h => ?_)
  · obtain ⟨b, l, pool, rfl, _⟩ := h
    rfl
  obtain ⟨b, l, pool, rfl, hb, hl, hn, q⟩ := h
  have nlb : l ≠ b := hl.elim (fun e => e.ne hb) (fun e => hb.ne_strs e)
  refine ⟨_, pss_cons (ps_set (i := 2) scStrewn.nd rfl (.inl rfl) (pe_lst pa_nil))
    (pss_cons (ps_for PassesOwn.never rfl (pi_or2 (pi_list (pv 1)) (pi_tup (pv 1))) (pg_name (i := 3) scStrewn.nd rfl (.inl rfl))
      (pss_one (ps_expr (pe_bm PySem.F.plainAttrs_list PySem.F.slot_list_insert PySem.F.type_list_insert mt_insert (pv 2) (pa_cons (pe_cal CT hr (pa_cons (pv 0) (pa_cons (pe_op op_add (pe_callB call_len_seq (by rfl) B.len PySem.boot_len (pa_cons (pv 2) pa_nil)) pe_int) pa_nil))) (pa_cons (pv 3) pa_nil))))))
    (pss_one (ps_ret (pv 2)))), ?_⟩
  refine ⟨(by show 0 ≤ sizeLine; decide), fun fa hfa => ?_⟩
  have s0 : Same H (upd H fa (.lst [])) := same_upd hfa
  have nfb : fa ≠ b := hb.ne_none hfa
  have nlf : l ≠ fa := hl.elim (fun e => e.ne_new hfa) (fun e => ne_of_none e hfa)
  have turn : ∀ (i : Nat) (x : Str) (σ : L2.St) (H1 : Hp), pool[i]? = some x → (∃ (order : List Str) (y3 : Option V), σ = [some (.ref b), some (.ref l), some (.ref fa), y3] ∧ Oth b H H1 ∧ IsBox H1 b ∧ RowAt H1 l pool ∧ H1 fa = some (.lst (order.map V.str)) ∧ order.Perm (pool.take i)) → ∀ (D : Ends), D.nx = (fun σ H1 => ∃ (order : List Str) (y3 : Option V), σ = [some (.ref b), some (.ref l), some (.ref fa), y3] ∧ Oth b H H1 ∧ IsBox H1 b ∧ RowAt H1 l pool ∧ H1 fa = some (.lst (order.map V.str)) ∧ order.Perm (pool.take (i + 1))) →
      (tDrop (tBM K "list" (fun x vs H Q => ∃ l xs i y, x = .ref l ∧ vs = [.int i, y] ∧ H l = some (.lst xs) ∧ xs.length < sizeLine ∧ 0 ≤ i ∧ i < 2 ^ 63 ∧ Q .non (upd H l (.lst (xs.take i.toNat ++ [y] ++ xs.drop i.toNat)))) (tVar 2) (tCons (tCall spTake [] E0 (tCons (tVar 0) (tCons (tOp (rI0 fun i j => .int (i + j)) (tCB (fun xs H Q => ∃ p ys, xs = [.ref p] ∧ (SqL K H p ys ∨ SqT K H p ys) ∧ Q (.int ys.length) H) (tCons (tVar 2) tNil)) (tC (.int 1))) tNil))) (tCons (tVar 3) tNil)))) D (σ.set 3 (some (.str x))) H1 := by
    rintro i x σ H1 hx ⟨order, y3, rfl, o1, b1, l1, f1, p1⟩ D hD
    have hi : i < pool.length := (List.getElem?_eq_some_iff.mp hx).1
    have ol : order.length = i := by
      rw [p1.length_eq, List.length_take]
      omega
    have L1 : SqL K H1 fa (order.map V.str) := .inl (.inl f1)
    refine ⟨.ref fa, rfl, .inl ⟨rfl, _, L1⟩, .ref b, rfl, .ref fa, rfl, fa, _, rfl, .inl L1, _, _, rfl, rfl, b, _, rfl, b1, by omega, ?_, fun v H2 o2 b2 v0 v1 => ?_⟩
    · rw [List.length_map]
      omega
    have f2 : H2 fa = some (.lst (order.map V.str)) := o2 _ _ nfb f1
    refine ⟨_, rfl, fa, _, v, _, rfl, rfl, f2, ?_, v0, ?_, ?_⟩
    · rw [List.length_map]
      exact small1000 (by omega)
    · rw [List.length_map] at v1
      omega
    rw [hD]
    have pm := ins_perm order v.toNat x
    refine ⟨order.take v.toNat ++ [x] ++ order.drop v.toNat, _, rfl, fun a o na e => ?_, ?_, ?_, ?_, ?_⟩
    · rw [upd_ne (ne_of_none e hfa)]
      exact o2 _ _ na (o1 _ _ na e)
    · obtain ⟨i1, i2, i3, e⟩ := b2
      exact ⟨i1, i2, i3, (upd_ne (Ne.symm nfb)).trans e⟩
    · exact l1.elim (fun e => .inl ((e.oth o2 b1).upd_ f2)) (fun e => .inr ((upd_ne nlf).trans (o2 _ _ nlb e)))
    · rw [upd_same, ins_map]
    · refine pm.trans ((p1.cons x).trans ?_)
      rw [List.take_add_one, hx]
      exact (List.perm_append_singleton x (pool.take i)).symm
  have fin : ∀ (σ : L2.St) (H1 : Hp), (∃ (order : List Str) (y3 : Option V), σ = [some (.ref b), some (.ref l), some (.ref fa), y3] ∧ Oth b H H1 ∧ IsBox H1 b ∧ RowAt H1 l pool ∧ H1 fa = some (.lst (order.map V.str)) ∧ order.Perm (pool.take (pool.map V.str).length)) → ∃ v, σ[2]? = some (some v) ∧ Q v H1 := by
    rintro σ H1 ⟨order, y3, rfl, o1, b1, l1, f1, p1⟩
    rw [List.length_map, List.take_of_length_le (Nat.le_refl _)] at p1
    exact ⟨.ref fa, rfl, q fa order H1 o1 b1 hfa f1 p1⟩
  rcases hl with e | e
  · refine .inr ⟨.ref l, rfl, l, rfl, ⟨_, (e.same s0).sq⟩, ?_⟩
    refine for_it (walk_tup (xs := pool.map V.str)) (fun i σ H1 => ∃ (order : List Str) (y3 : Option V), σ = [some (.ref b), some (.ref l), some (.ref fa), y3] ∧ Oth b H H1 ∧ IsBox H1 b ∧ RowAt H1 l pool ∧ H1 fa = some (.lst (order.map V.str)) ∧ order.Perm (pool.take i)) ?_ ?_ ?_ ?_
    · exact ⟨[], _, rfl, Oth.of s0, hb.same s0, .inl (e.same s0), upd_same, List.Perm.refl _⟩
    · rintro i σ H1 _ ⟨order, y3, _, o1, _⟩
      exact (e.oth o1 hb).sq
    · rintro i v σ H2 H1 hi pv ⟨rfl, e2⟩
      obtain ⟨x, hx, rfl⟩ := at_map e2
      exact turn i x σ _ hx pv _ rfl
    · exact fin
  · refine .inl ⟨.ref l, rfl, l, rfl, ⟨_, .inl (.inl (s0 _ _ e))⟩, ?_⟩
    refine for_it (walk_list (xs := pool.map V.str)) (fun i σ H1 => ∃ (order : List Str) (y3 : Option V), σ = [some (.ref b), some (.ref l), some (.ref fa), y3] ∧ Oth b H H1 ∧ IsBox H1 b ∧ RowAt H1 l pool ∧ H1 fa = some (.lst (order.map V.str)) ∧ order.Perm (pool.take i)) ?_ ?_ ?_ ?_
    · exact ⟨[], _, rfl, Oth.of s0, hb.same s0, .inr (s0 _ _ e), upd_same, List.Perm.refl _⟩
    · rintro i σ H1 _ ⟨order, y3, _, o1, _⟩
      exact .inl (.inl (o1 _ _ nlb e))
    · rintro i v σ H2 H1 hi pv ⟨rfl, e2⟩
      obtain ⟨x, hx, rfl⟩ := at_map e2
      exact turn i x σ _ hx pv _ rfl
    · exact fin
abbrev sThinned : Stmt := topS 22
abbrev nThinned : List Str := ["_law_some", "_law_name", "_law_its"]
theorem scThinned : FnScope nThinned ["_law_some", "_law_name"] (defScope sThinned) := ⟨rfl, rfl, rfl, by decide +kernel, rfl, by decide +kernel, by decide +kernel⟩
theorem ok_thinned {f : Addr} {fd : FuncData} (B : Blt mg) (F : Fun K "_law_thinned" "_law_thinned" sThinned f fd) : FnOk P w K mg base CX0 1 f fd ["_law_some", "_law_name"] spThinned := by
  refine fok F scThinned (fun vs H Q E h => ?_) (fun cdv A outer s H vs Q E hr h => ?_)
  · obtain ⟨t, stand, x, rfl, _⟩ := h
    rfl
  obtain ⟨t, stand, x, rfl, ht, hn, q⟩ := h
  refine ⟨_, pss_one (ps_ret (pe_callTy call_tupleF (by rfl) B.tuple (by decide +kernel) (pa_cons (pe_lc (own := [("_law_its", 2)]) (g := gName 2) (tt := tTest (tOp rNe (tVar 2) (tVar 1))) rfl scThinned.nd (pi_tup (pv 0)) (blkOk_by (N := nThinned) (sc := defScope sThinned) (by decide +kernel)) (fun _ _ _ _ _ => pg_name (i := 2) scThinned.nd rfl (Or.inl rfl))
        (fun _ _ _ _ _ => pts_one (pt_cmpR op_ne (pv 2) (pv 1) (nomark _))) (fun _ _ _ _ _ => pv 2)) pa_nil))), ?_⟩
  refine ⟨.ref t, rfl, t, rfl, ⟨_, ht.sq⟩, fun D hD => ?_⟩
  refine lc_it (walk_tup (xs := stand.map V.str)) (fun i H' => Same H H' ∧ H' D = some (.lst (((stand.take i).filter fun y => !decide (y = x)).map V.str))) ?_ ?_ ?_ ?_
  · exact ⟨same_upd hD, upd_same⟩
  · rintro i H' _ ⟨s2, _⟩
    exact (ht.same s2).sq
  · rintro i v H3 H2 hi ⟨s2, d2⟩ ⟨rfl, e2⟩
    obtain ⟨its, hits, rfl⟩ := at_map e2
    rw [List.length_map] at hi
    have ft : ((stand.take (i + 1)).filter fun y => !decide (y = x)) = ((stand.take i).filter fun y => !decide (y = x)) ++ if (!decide (its = x)) = true then [its] else [] := by
      rw [List.take_add_one, hits, List.filter_append]
      show _ ++ List.filter (fun y => !decide (y = x)) [its] = _
      rw [List.filter_cons, List.filter_nil]
    have ed : decide (V.str its = V.str x) = decide (its = x) := decide_eq_decide.mpr ⟨fun z => V.str.inj z, fun z => by rw [z]⟩
    refine ⟨rfl, _, rfl, _, rfl, rfl, _, rfl, ?_⟩
    rw [ed]
    refine ite2 (fun c => ?_) (fun c => ?_)
    · rw [if_pos c] at ft
      refine ⟨_, rfl, _, d2, ?_, fun b o e => ?_, ?_⟩
      · rw [List.length_map]
        exact small1000 (Nat.le_trans (List.length_filter_le _ _) (by rw [List.length_take]; omega))
      · rw [upd_ne (ne_of_none e hD)]
        exact s2 _ _ e
      · rw [upd_same, ft, List.map_append]
        rfl
    · rw [if_neg c, List.append_nil] at ft
      exact ⟨s2, by rw [ft]; exact d2⟩
  · rintro H2 ⟨s2, d2⟩
    rw [List.length_map, List.take_of_length_le (Nat.le_refl _)] at d2
    exact ⟨D, _, rfl, .inl ⟨.inl (.inl d2), fun a Ha sa ha ta => q a Ha (s2.trans sa) ta⟩⟩
abbrev sFine : Stmt := topS 23
abbrev nFine : List Str := ["_law_box_here", "_law_pals_here", "_law_pool"]
theorem scFine : FnScope nFine nFine (defScope sFine) := ⟨rfl, rfl, rfl, by decide +kernel, rfl, by decide +kernel, by decide +kernel⟩
theorem ok_fine {f : Addr} {fd : FuncData} (CS : Cal P w K mg base 3 "_law_stand_of" ["_law_pals_here", "_law_some"] spStandOf) (CW : Cal P w K mg base 2 "_law_strewn" ["_law_box_here", "_law_some"] spStrewn) (F : Fun K "_law_fine_stand" "_law_fine_stand" sFine f fd) : FnOk P w K mg base CX0 4 f fd nFine spFine := by
  refine fok F scFine (fun vs H Q E h => ?_) (fun cdv A outer s H vs Q E hr h => ?_)
  · obtain ⟨b, a, l, ps, pool, rfl, _⟩ := h
    rfl
  obtain ⟨b, a, l, ps, pool, rfl, hb, ha, ho, hl, gs, hn, q⟩ := h
  refine ⟨_, pss_one (ps_ret (pe_cal CS hr (pa_cons (pv 1) (pa_cons (pe_cal CW hr (pa_cons (pv 0) (pa_cons (pv 2) pa_nil))) pa_nil)))), ?_⟩
  refine ⟨_, rfl, _, rfl, _, rfl, b, l, pool, rfl, hb, .inr hl, hn, fun p order H1 o1 b1 np e1 pm => ?_⟩
  refine ⟨a, p, ps, order, rfl, ha.oth o1 hb, ho, e1, gs.perm pm, (by rw [pm.length_eq]; exact hn), fun t H2 s2 e2 => ?_⟩
  exact q t order H2 (o1.trans (Oth.of s2)) (b1.same s2) e2 pm
abbrev sAny : Stmt := topS 24
abbrev nAny : List Str := ["_law_box_here", "_law_pals_here", "_law_pool", "_law_stand", "_law_way", "_law_name", "_law_left", "_law_spot"]
theorem scAny : FnScope nAny nFine (defScope sAny) := ⟨rfl, rfl, rfl, by decide +kernel, rfl, by decide +kernel, by decide +kernel⟩
theorem ok_any {f : Addr} {fd : FuncData} (B : Blt mg) (CT : Cal P w K mg base 1 "_law_take" ["_law_box_here", "_law_many"] spTake) (CF : Cal P w K mg base 4 "_law_fine_stand" nFine spFine) (CW : Cal P w K mg base 2 "_law_strewn" ["_law_box_here", "_law_some"] spStrewn) (CH : Cal P w K mg base 1 "_law_thinned" ["_law_some", "_law_name"] spThinned) (F : Fun K "_law_any_stand" "_law_any_stand" sAny f fd) : FnOk P w K mg base CX0 5 f fd nFine spAny := by
  refine fok F scAny (fun vs H Q E h => ?_) (fun cdv A outer s H vs Q E hr h => ?_)
  · obtain ⟨b, a, l, ps, pool, rfl, _⟩ := h
    rfl
  obtain ⟨b, a, l, ps, pool, rfl, hb, ha, ho, hl, gs, hd, hn, q⟩ := h
  have h1 : Room 1 _ := hr.mono (by decide)
  have h2 : Room 2 _ := hr.mono (by decide)
  refine ⟨_, pss_cons (ps_par (i := 3) (j := 4) (by rfl) scAny.nd rfl rfl (by decide) rfl rfl (pa_cons (pe_cal CF hr (pa_cons (pv 0) (pa_cons (pv 1) (pa_cons (pv 2) pa_nil)))) (pa_cons (pe_cal CT h1 (pa_cons (pv 0) (pa_cons pe_int pa_nil))) pa_nil)) (by rfl))
    (pss_cons (ps_if (pt_cmpR op_eq (pv 4) pe_int (nomark _)) (pss_one (ps_ret (pe_callTy call_tupleF (by rfl) B.tuple (by decide +kernel) (pa_cons (pe_cal CW h2 (pa_cons (pv 0) (pa_cons (pv 2) pa_nil))) pa_nil)))) pss_nil)
    (pss_cons (ps_if (PW.pt (pw_and (pt_cmpR op_lt (pv 4) pe_int (nomark _)) (pw_and1 (pt_cmpR op_gt (pe_callB call_len_seq (by rfl) B.len PySem.boot_len (pa_cons (pv 3) pa_nil)) pe_int (nomark _)))))
      (pss_cons (ps_set (i := 5) scAny.nd rfl (.inl rfl) (pe_ix ix_tup (pv 3) (pe_cal CT h1 (pa_cons (pv 0) (pa_cons (pe_callB call_len_seq (by rfl) B.len PySem.boot_len (pa_cons (pv 3) pa_nil)) pa_nil))) (fun _ _ => rfl)))
      (pss_cons (ps_set (i := 6) scAny.nd rfl (.inl rfl) (pe_cal CH h1 (pa_cons (pv 3) (pa_cons (pv 5) pa_nil))))
      (pss_cons (ps_set (i := 7) scAny.nd rfl (.inl rfl) (pe_cal CT h1 (pa_cons (pv 0) (pa_cons (pe_op op_add (pe_callB call_len_seq (by rfl) B.len PySem.boot_len (pa_cons (pv 6) pa_nil)) pe_int) pa_nil))))
      (pss_one (ps_ret (pe_op op_catM (pe_op op_catM (pe_slice sl_tupM (pv 6) po_none (po_some (pv 7))) (pe_tupF (pa_cons (pv 5) pa_nil))) (pe_slice sl_tupM (pv 6) (po_some (pv 7)) po_none))))))) pss_nil)
    (pss_one (ps_ret (pv 3))))), ?_⟩
  refine ⟨_, rfl, _, rfl, _, rfl, b, a, l, ps, pool, rfl, hb, ha, ho, hl, gs, hn, fun t order H1 o1 b1 e1 pm => ?_⟩
  refine ⟨_, rfl, b, 4, rfl, b1, by decide, by decide, fun way H2 o2 b2 w0 w1 => ⟨_, _, rfl, ?_⟩⟩
  have pst : (standOf ps order).Perm pool := (stand_perm ps order).trans pm
  generalize standOf ps order = stand at pst e1
  have e2 := e1.oth o2 b1
  have o12 := o1.trans o2
  have l2 : H2 l = some (.lst (pool.map V.str)) := o12 _ _ (hb.ne_strs hl) hl
  have sl : stand.length = pool.length := pst.length_eq
  have T2 : SqT K H2 t (stand.map V.str) := e2.sq
  refine ⟨_, rfl, rfl, _, rfl, ite2 (fun _ => ?_) (fun _ => ?_)⟩
  · refine ⟨_, rfl, _, rfl, b, l, pool, rfl, b2, .inr l2, hn, fun p ord H3 o3 b3 np e3 pm3 => ?_⟩
    exact ⟨p, _, rfl, .inl ⟨.inl (.inl e3), fun c Hc sc hc tc => q c ord Hc ((o12.trans o3).trans (Oth.of sc)) (b3.same sc) tc pm3⟩⟩
  · refine ⟨_, rfl, _, _, rfl, rfl, _, rfl, ite2 (fun _ => ?_) (fun _ => ?_)⟩
    · refine ⟨.ref t, rfl, t, _, rfl, .inr T2, _, _, rfl, rfl, _, rfl, ite2 (fun c => ?_) (fun _ => ?_)⟩
      · have c' : 0 < stand.length := by
          have z := of_decide_eq_true c
          rw [List.length_map] at z
          omega
        refine ⟨.ref t, rfl, .ref b, rfl, .ref t, rfl, t, _, rfl, .inr T2, b, _, rfl, b2, (by rw [List.length_map]; omega), (by rw [List.length_map]; omega), fun v H3 o3 b3 v0 v1 => ?_⟩
        rw [List.length_map] at v1
        have e3 := e2.oth o3 b2
        obtain ⟨x, hx⟩ : ∃ x, stand[v.toNat]? = some x := ⟨stand[v.toNat]'(by omega), List.getElem?_eq_getElem _⟩
        have ev : v = ((v.toNat : Nat) : Int) := by omega
        refine ⟨t, _, v, .str x, rfl, rfl, e3.sq, (by rw [ev]; exact atI_nat (ix_map hx)), ?_⟩
        refine ⟨.ref t, rfl, _, rfl, t, stand, x, rfl, e3, by omega, fun t4 H4 s4 e4 => ?_⟩
        have hxm : x ∈ stand := List.mem_of_getElem? hx
        have nds : stand.Nodup := pst.nodup_iff.mpr hd
        have plf : (x :: stand.filter fun y => !decide (y = x)).Perm stand := by
          have z1 : (stand.filter fun y => !decide (y = x)) = stand.erase x := by
            rw [nds.erase_eq_filter]
            refine List.filter_congr fun y _ => ?_
            by_cases z : y = x
            · subst z; simp
            · simp [z]
          rw [z1]
          exact (List.perm_cons_erase hxm).symm
        generalize (stand.filter fun y => !decide (y = x)) = left at plf e4
        have ll : left.length + 1 = stand.length := plf.length_eq
        have T4 : SqT K H4 t4 (left.map V.str) := e4.sq
        refine ⟨.ref b, rfl, .ref t4, rfl, t4, _, rfl, .inr T4, _, _, rfl, rfl, b, _, rfl, b3.same s4, (by omega), (by rw [List.length_map]; omega), fun u H5 o5 b5 u0 u1 => ?_⟩
        rw [List.length_map] at u1
        have e5 := e4.oth o5 (b3.same s4)
        have eu : u = ((u.toNat : Nat) : Int) := by omega
        refine ⟨.ref t4, rfl, _, rfl, _, rfl, t4, _, rfl, e5, fun t6 H6 s6 e6 => ?_⟩
        rw [cutV_map, eu, cutL_to] at e6
        refine ⟨_, rfl, (by show 1 ≤ sizeLine; decide), fun p Hp sp hp tp => ?_⟩
        refine ⟨t6, p, _, _, rfl, rfl, e6.same sp, tp, ?_, fun t7 H7 s7 e7 => ?_⟩
        · rw [List.length_map, List.length_take]
          exact small_le (by show _ + 1 ≤ 1000; omega)
        have s57 := (s6.trans sp).trans s7
        refine ⟨.ref t4, rfl, _, rfl, _, rfl, t4, _, rfl, e5.same s57, fun t8 H8 s8 e8 => ?_⟩
        rw [cutV_map, eu, cutL_from] at e8
        refine ⟨t7, t8, _, _, rfl, rfl, e7.same s8, e8, ?_, fun t9 H9 s9 e9 => ?_⟩
        · rw [List.length_append, List.length_map, List.length_map, List.length_take, List.length_drop]
          exact small_le (by show _ + 1 + _ ≤ 1000; omega)
        have s59 := (s57.trans s8).trans s9
        refine q t9 (left.take u.toNat ++ [x] ++ left.drop u.toNat) H9 ((((o12.trans o3).trans (Oth.of s4)).trans o5).trans (Oth.of s59)) (b5.same s59) ?_ ((ins_perm left u.toNat x).trans (plf.trans pst))
        rw [List.map_append, List.map_append]
        exact e9
      · exact ⟨.ref t, rfl, q t stand H2 o12 b2 e2 pst⟩
    · exact ⟨.ref t, rfl, q t stand H2 o12 b2 e2 pst⟩
/-! ### _law_same -/
abbrev sSame : Stmt := topS 21
abbrev nSame : List Str := ["_law_found", "_law_due", "_law_piece", "_law_part"]
theorem scSame : FnScope nSame ["_law_found", "_law_due"] (defScope sSame) := ⟨rfl, rfl, rfl, by decide +kernel, rfl, by decide +kernel, by decide +kernel⟩
theorem ok_same_step {f : Addr} {fd : FuncData} {n : Nat} (B : Blt mg) (CS : Cal P w K mg base n "_law_same" ["_law_found", "_law_due"] (spSame n)) (F : Fun K "_law_same" "_law_same" sSame f fd) : FnOk P w K mg base CX0 (n + 1) f fd ["_law_found", "_law_due"] (spSame (n + 1)) := by
  refine fok F scSame (fun vs H Q E h => ?_) (fun cdv A outer s H vs Q E hr h => ?_)
  · obtain ⟨x, y, rfl, _⟩ := h
    rfl
  obtain ⟨x, y, rfl, hA, q⟩ := h
  refine ⟨_, pss_cons (ps_if (pt_val (pe_callB call_isiT (by rfl) B.isinstance (by decide +kernel) (pa_cons (pv 1) (pa_cons (pe_tup (pa_cons (pe_bltn (v := .ty "list") (by rfl) B.list (by decide +kernel) rfl) (pa_cons (pe_bltn (v := .ty "tuple") (by rfl) B.tuple (by decide +kernel) rfl) pa_nil))) pa_nil))))
      (pss_cons (ps_if (PW.pt (pw_or (pt_cmpR op_ne (pe_callB call_isi (by rfl) B.isinstance (by decide +kernel) (pa_cons (pv 0) (pa_cons (pe_bltn (v := .ty "list") (by rfl) B.list (by decide +kernel) rfl) pa_nil))) (pe_callB call_isi (by rfl) B.isinstance (by decide +kernel) (pa_cons (pv 1) (pa_cons (pe_bltn (v := .ty "list") (by rfl) B.list (by decide +kernel) rfl) pa_nil))) (nomark _))
          (pw_or1 (pt_cmpR op_ne (pe_callB call_isi (by rfl) B.isinstance (by decide +kernel) (pa_cons (pv 0) (pa_cons (pe_bltn (v := .ty "tuple") (by rfl) B.tuple (by decide +kernel) rfl) pa_nil))) (pe_callB call_isi (by rfl) B.isinstance (by decide +kernel) (pa_cons (pv 1) (pa_cons (pe_bltn (v := .ty "tuple") (by rfl) B.tuple (by decide +kernel) rfl) pa_nil))) (nomark _)))))
        (pss_one (ps_ret pe_bl)) pss_nil)
      (pss_one (ps_ret (pe_and (pe_cmpR op_eq (pe_callB call_len_seq (by rfl) B.len PySem.boot_len (pa_cons (pv 0) pa_nil)) (pe_callB call_len_seq (by rfl) B.len PySem.boot_len (pa_cons (pv 1) pa_nil)) (nomark _))
        (pe_one (pe_callB (cr_all rfl) (by rfl) B.all (by decide +kernel) (pa_cons (pe_lc (own := [("_law_piece", 2), ("_law_part", 3)]) (g := gTup K 2 (gCons (gName 2) (gCons (gName 3) gNil))) (tt := tYes) rfl scSame.nd (RZ.pi_zipA (by rfl) B.zip (pa_cons (pv 0) (pa_cons (pv 1) pa_nil))) (blkOk_by (N := nSame) (sc := defScope sSame) (by decide +kernel))
          (fun _ _ _ _ _ => pg_tup rfl (pgs_cons (pg_name (i := 2) scSame.nd rfl (Or.inl rfl)) (pgs_cons (pg_name (i := 3) scSame.nd rfl (Or.inl rfl)) pgs_nil))) (fun _ _ _ _ _ => pts_nil) (fun _ _ _ _ _ => pe_cal CS hr (pa_cons (pv 2) (pa_cons (pv 3) pa_nil)))) pa_nil))))))) pss_nil)
    (pss_cons (ps_if (PW.pt (pw_or (pt_cmp (pc_isN (pv 1))) (pw_or1 (pt_val (pe_callB call_isi (by rfl) B.isinstance (by decide +kernel) (pa_cons (pv 1) (pa_cons (pe_bltn (v := .ty "str") (by rfl) B.str (by decide +kernel) rfl) pa_nil)))))))
      (pss_one (ps_ret (pe_and (pe_cmpR op_eq (pe_callB call_isi (by rfl) B.isinstance (by decide +kernel) (pa_cons (pv 0) (pa_cons (pe_bltn (v := .ty "str") (by rfl) B.str (by decide +kernel) rfl) pa_nil))) (pe_callB call_isi (by rfl) B.isinstance (by decide +kernel) (pa_cons (pv 1) (pa_cons (pe_bltn (v := .ty "str") (by rfl) B.str (by decide +kernel) rfl) pa_nil))) (nomark _)) (pe_one (pe_cmpR op_eq (pv 0) (pv 1) (nomark _)))))) pss_nil)
    (pss_one (ps_ret (pe_and (pe_callB call_isi (by rfl) B.isinstance (by decide +kernel) (pa_cons (pv 0) (pa_cons (pe_bltn (v := .ty "int") (by rfl) B.int (by decide +kernel) rfl) pa_nil)))
      (pe_and (pe_cmpR op_eq (pe_callB call_isi (by rfl) B.isinstance (by decide +kernel) (pa_cons (pv 0) (pa_cons (pe_bltn (v := .ty "bool") (by rfl) B.bool (by decide +kernel) rfl) pa_nil))) (pe_callB call_isi (by rfl) B.isinstance (by decide +kernel) (pa_cons (pv 1) (pa_cons (pe_bltn (v := .ty "bool") (by rfl) B.bool (by decide +kernel) rfl) pa_nil))) (nomark _)) (pe_one (pe_cmpR op_eq (pv 0) (pv 1) (nomark _)))))))), ?_⟩
  have l2 : (2 : Nat) ≤ sizeLine := by decide
  rcases hA with ⟨hx, rfl⟩ | ⟨a, b, xs, ys, rfl, rfl, h1, h2, hl, hz, h⟩ | ⟨a, b, xs, ys, rfl, rfl, h1, h2, hl, hz, h⟩
  · rcases hx with rfl | ⟨c, rfl⟩ | ⟨c, rfl⟩ | ⟨c, rfl⟩
    · refine ⟨_, rfl, l2, fun p hp => ⟨_, p, _, _, _, false, rfl, upd_same, .cons (.ty _) (.cons (.ty _) .nil), .base .non, kitAny_cons (b := false) (kit_ty (by decide +kernel)) (fun _ => kitAny_cons (b := false) (kit_ty (by decide +kernel)) (fun _ => kitAny_nil) (fun z => nomatch z)) (fun z => nomatch z), _, rfl, ?_⟩⟩
      refine ⟨_, rfl, _, rfl, ?_⟩
      refine ⟨_, rfl, _, _, _, _, false, rfl, .ty _, .base .non, kit_ty (by decide +kernel), _, rfl, _, _, _, _, false, rfl, .ty _, .base .non, kit_ty (by decide +kernel), rfl, _, rfl, ?_⟩
      exact ⟨_, rfl, _, rfl, rfl, q _ (same_upd hp)⟩
    · refine ⟨_, rfl, l2, fun p hp => ⟨_, p, _, _, _, false, rfl, upd_same, .cons (.ty _) (.cons (.ty _) .nil), .base (.bl c), kitAny_cons (b := false) (kit_ty (by decide +kernel)) (fun _ => kitAny_cons (b := false) (kit_ty (by decide +kernel)) (fun _ => kitAny_nil) (fun z => nomatch z)) (fun z => nomatch z), _, rfl, ?_⟩⟩
      refine ⟨_, rfl, _, rfl, _, rfl, _, _, _, _, false, rfl, .ty _, .base (.bl c), kit_ty (by decide +kernel), _, rfl, ?_⟩
      refine ⟨_, rfl, _, _, _, _, true, rfl, .ty _, .base (.bl c), kit_ty (by decide +kernel), _, rfl, ?_⟩
      refine ⟨_, rfl, _, _, _, _, true, rfl, .ty _, .base (.bl c), kit_ty (by decide +kernel), _, rfl, _, _, _, _, true, rfl, .ty _, .base (.bl c), kit_ty (by decide +kernel), rfl, _, rfl, ?_⟩
      refine ⟨_, rfl, _, rfl, rfl, ?_⟩
      rw [decide_eq_true rfl]
      exact q _ (same_upd hp)
    · refine ⟨_, rfl, l2, fun p hp => ⟨_, p, _, _, _, false, rfl, upd_same, .cons (.ty _) (.cons (.ty _) .nil), .base (.int c), kitAny_cons (b := false) (kit_ty (by decide +kernel)) (fun _ => kitAny_cons (b := false) (kit_ty (by decide +kernel)) (fun _ => kitAny_nil) (fun z => nomatch z)) (fun z => nomatch z), _, rfl, ?_⟩⟩
      refine ⟨_, rfl, _, rfl, _, rfl, _, _, _, _, false, rfl, .ty _, .base (.int c), kit_ty (by decide +kernel), _, rfl, ?_⟩
      refine ⟨_, rfl, _, _, _, _, true, rfl, .ty _, .base (.int c), kit_ty (by decide +kernel), _, rfl, ?_⟩
      refine ⟨_, rfl, _, _, _, _, false, rfl, .ty _, .base (.int c), kit_ty (by decide +kernel), _, rfl, _, _, _, _, false, rfl, .ty _, .base (.int c), kit_ty (by decide +kernel), rfl, _, rfl, ?_⟩
      refine ⟨_, rfl, _, rfl, rfl, ?_⟩
      rw [decide_eq_true rfl]
      exact q _ (same_upd hp)
    · refine ⟨_, rfl, l2, fun p hp => ⟨_, p, _, _, _, false, rfl, upd_same, .cons (.ty _) (.cons (.ty _) .nil), .base (.str c), kitAny_cons (b := false) (kit_ty (by decide +kernel)) (fun _ => kitAny_cons (b := false) (kit_ty (by decide +kernel)) (fun _ => kitAny_nil) (fun z => nomatch z)) (fun z => nomatch z), _, rfl, ?_⟩⟩
      refine ⟨_, rfl, _, rfl, _, rfl, _, _, _, _, true, rfl, .ty _, .base (.str c), kit_ty (by decide +kernel), _, rfl, ?_⟩
      refine ⟨_, rfl, _, _, _, _, true, rfl, .ty _, .base (.str c), kit_ty (by decide +kernel), _, rfl, _, _, _, _, true, rfl, .ty _, .base (.str c), kit_ty (by decide +kernel), rfl, _, rfl, ?_⟩
      refine ⟨_, rfl, _, rfl, rfl, ?_⟩
      rw [decide_eq_true rfl]
      exact q _ (same_upd hp)
  · refine ⟨_, rfl, l2, fun p hp => ⟨_, p, _, _, _, true, rfl, upd_same, .cons (.ty _) (.cons (.ty _) .nil), .base (.lst (same_upd hp _ _ h2)), kitAny_cons (b := true) (kit_ty (by decide +kernel)) (fun z => nomatch z) (fun _ => rfl), _, rfl, ?_⟩⟩
    have sp : Same H (upd H p (.tup [.ty "list", .ty "tuple"])) := same_upd hp
    have k1 := sp _ _ h1
    have k2 := sp _ _ h2
    refine ⟨_, rfl, _, _, _, _, true, rfl, .ty _, .base (.lst k1), kit_ty (by decide +kernel), _, rfl, _, _, _, _, true, rfl, .ty _, .base (.lst k2), kit_ty (by decide +kernel), rfl, _, rfl, ?_⟩
    refine ⟨_, rfl, _, _, _, _, false, rfl, .ty _, .base (.lst k1), kit_ty (by decide +kernel), _, rfl, _, _, _, _, false, rfl, .ty _, .base (.lst k2), kit_ty (by decide +kernel), rfl, _, rfl, ?_⟩
    refine ⟨_, rfl, a, _, rfl, .inl (.inl (.inl k1)), _, rfl, b, _, rfl, .inl (.inl (.inl k2)), rfl, _, rfl, ?_⟩
    rw [hl, decide_eq_true rfl]
    refine ⟨_, rfl, _, rfl, a, b, xs, ys, rfl, .inl ⟨.inl (.inl k1), .inl (.inl k2), fun D hD => ?_⟩⟩
    refine lc_it (walk_zip (xs := xs) (ys := ys) (n := xs.length) (by omega)) (fun i H' => Same (upd H p (.tup [.ty "list", .ty "tuple"])) H' ∧ H' D = some (.lst ((List.replicate i true).map V.bl))) ?_ ?_ ?_ ?_
    · exact ⟨same_upd hD, upd_same⟩
    · rintro i H' _ ⟨s2, _⟩
      exact ⟨.inl (.inl (s2 _ _ k1)), .inl (.inl (s2 _ _ k2))⟩
    · rintro i v H2 H3 hi ⟨s2, d2⟩ ⟨T, u1, u2, rfl, nT, rfl, e1, e2⟩
      have s3 := s2.trans (same_upd (o := .tup [u1, u2]) nT)
      refine ⟨T, _, rfl, .inl (.inl upd_same), rfl, _, _, rfl, _, _, rfl, rfl, rfl, ?_⟩
      refine ⟨_, rfl, _, rfl, u1, u2, rfl, (h i u1 u2 e1 e2).same (sp.trans s3), fun H4 s4 => ?_⟩
      have d4 := s4 _ _ (same_upd nT _ _ d2)
      refine ⟨_, d4, ?_, fun c o e => ?_, ?_⟩
      · rw [List.length_map, List.length_replicate]
        exact small1000 (by omega)
      · rw [upd_ne (ne_of_none e hD)]
        exact s4 _ _ (s3 _ _ e)
      · rw [upd_same, List.replicate_succ', List.map_append]
        rfl
    · rintro H2 ⟨s2, d2⟩
      refine ⟨D, _, rfl, .inl (.inl d2), ?_⟩
      rw [show (List.replicate xs.length true).all id = true by simp]
      exact q _ (sp.trans s2)
  · refine ⟨_, rfl, l2, fun p hp => ⟨_, p, _, _, _, true, rfl, upd_same, .cons (.ty _) (.cons (.ty _) .nil), (h2.same (same_upd hp)).ty, kitAny_cons (b := false) (kit_ty (by decide +kernel)) (fun _ => kitAny_cons (b := true) (kit_ty (by decide +kernel)) (fun z => nomatch z) (fun _ => rfl)) (fun z => nomatch z), _, rfl, ?_⟩⟩
    have sp : Same H (upd H p (.tup [.ty "list", .ty "tuple"])) := same_upd hp
    have k1 := h1.same sp
    have k2 := h2.same sp
    refine ⟨_, rfl, _, _, _, _, false, rfl, .ty _, k1.ty, kit_ty (by decide +kernel), _, rfl, _, _, _, _, false, rfl, .ty _, k2.ty, kit_ty (by decide +kernel), rfl, _, rfl, ?_⟩
    refine ⟨_, rfl, _, _, _, _, true, rfl, .ty _, k1.ty, kit_ty (by decide +kernel), _, rfl, _, _, _, _, true, rfl, .ty _, k2.ty, kit_ty (by decide +kernel), rfl, _, rfl, ?_⟩
    refine ⟨_, rfl, a, _, rfl, .inr k1.sq, _, rfl, b, _, rfl, .inr k2.sq, rfl, _, rfl, ?_⟩
    rw [hl, decide_eq_true rfl]
    refine ⟨_, rfl, _, rfl, a, b, xs, ys, rfl, .inr ⟨k1.sq, k2.sq, fun D hD => ?_⟩⟩
    refine lc_it (walk_zipT (xs := xs) (ys := ys) (n := xs.length) (by omega)) (fun i H' => Same (upd H p (.tup [.ty "list", .ty "tuple"])) H' ∧ H' D = some (.lst ((List.replicate i true).map V.bl))) ?_ ?_ ?_ ?_
    · exact ⟨same_upd hD, upd_same⟩
    · rintro i H' _ ⟨s2, _⟩
      exact ⟨(k1.same s2).sq, (k2.same s2).sq⟩
    · rintro i v H2 H3 hi ⟨s2, d2⟩ ⟨T, u1, u2, rfl, nT, rfl, e1, e2⟩
      have s3 := s2.trans (same_upd (o := .tup [u1, u2]) nT)
      refine ⟨T, _, rfl, .inl (.inl upd_same), rfl, _, _, rfl, _, _, rfl, rfl, rfl, ?_⟩
      refine ⟨_, rfl, _, rfl, u1, u2, rfl, (h i u1 u2 e1 e2).same (sp.trans s3), fun H4 s4 => ?_⟩
      have d4 := s4 _ _ (same_upd nT _ _ d2)
      refine ⟨_, d4, ?_, fun c o e => ?_, ?_⟩
      · rw [List.length_map, List.length_replicate]
        exact small1000 (by omega)
      · rw [upd_ne (ne_of_none e hD)]
        exact s4 _ _ (s3 _ _ e)
      · rw [upd_same, List.replicate_succ', List.map_append]
        rfl
    · rintro H2 ⟨s2, d2⟩
      refine ⟨D, _, rfl, .inl (.inl d2), ?_⟩
      rw [show (List.replicate xs.length true).all id = true by simp]
      exact q _ (sp.trans s2)
theorem ok_same {f : Addr} {fd : FuncData} (B : Blt mg) (F : Fun K "_law_same" "_law_same" sSame f fd) (hm : mg "_law_same" = some (.ref f)) (hb : L2.Binds K fd ["_law_found", "_law_due"] []) : ∀ n : Nat, FnOk P w K mg base CX0 n f fd ["_law_found", "_law_due"] (spSame n)
  | 0 => by
    have no : ∀ vs H Q E, ¬ spSame 0 vs H Q E := fun vs H Q E h => by
      obtain ⟨_, _, _, h, _⟩ := h
      exact h
    exact ⟨fun vs H Q E h => absurd h (no vs H Q E), fun A outer s H args us vs Q E _ _ _ _ h => absurd h (no vs H Q E)⟩
  | n + 1 => ok_same_step B ⟨f, fd, ok_same B F hm hb n, hm, F.kp, hb⟩ F
/-! ### both_ways -/
abbrev sBoth : Stmt := topS 1
abbrev nBoth : List Str := ["friends", "known", "one", "other"]
theorem scBoth : FnScope nBoth ["friends"] (defScope sBoth) := ⟨rfl, rfl, rfl, by decide +kernel, rfl, by decide +kernel, by decide +kernel⟩
theorem ok_both {f : Addr} {fd : FuncData} (F : Fun K "both_ways" "both_ways" sBoth f fd) : FnOk P w K mg base CX0 1 f fd ["friends"] spBoth := by
  refine fok F scBoth (fun vs H Q E h => ?_) (fun cdv A outer s H vs Q E hr h => ?_)
  · obtain ⟨a, ps, rfl, _⟩ := h
    rfl
  obtain ⟨a, ps, rfl, ⟨bs, ha, hp, rfl⟩, hn, q⟩ := h
  rw [List.length_map] at hn
  have hu := hu_of hr
  refine ⟨_, pss_cons (ps_set (i := 1) scBoth.nd rfl (.inl rfl) pe_dnewT)
    (pss_cons (ps_for PassesOwn.never rfl (pi_or2 (pi_list (pv 0)) (pi_tup (pv 0))) (pg_tup rfl (pgs_cons (pg_name (i := 2) scBoth.nd rfl (.inl rfl)) (pgs_cons (pg_name (i := 3) scBoth.nd rfl (.inl rfl)) pgs_nil)))
      (pss_cons (ps_dput hu (pv 1) (pe_tup (pa_cons (pv 2) (pa_cons (pv 3) pa_nil))) pe_bl rfl)
      (pss_one (ps_dput hu (pv 1) (pe_tup (pa_cons (pv 3) (pa_cons (pv 2) pa_nil))) pe_bl rfl))))
    (pss_one (ps_ret (pv 1)))), ?_⟩
  refine fun d hd => ?_
  have s0 : Same H (upd H d (.dT [])) := same_upd hd
  have Pv : ∃ Pv : Nat → L2.St → Hp → Prop, Pv = fun i σ H' => ∃ (y2 y3 : Option V) (kvs : List (List Key × V)), σ = [some (.ref a), some (.ref d), y2, y3] ∧ Same H H' ∧ H' d = some (.dT kvs) ∧ kvs.length ≤ 2 * i ∧ ∀ x y, (valV kvs (k2 x y)).isSome = frd ((bs.map (·.2)).take i) x y := ⟨_, rfl⟩
  obtain ⟨Pv, hPv⟩ := Pv
  have start : Pv 0 [some (.ref a), some (.ref d), none, none] (upd H d (.dT [])) := by
    rw [hPv]
    exact ⟨_, _, [], rfl, s0, upd_same, Nat.zero_le _, fun x y => rfl⟩
  have turn : ∀ (i : Nat) (c : B3) (σ : L2.St) (H1 : Hp), bs[i]? = some c → Pv i σ H1 → ∀ (D : Ends), D.nx = Pv (i + 1) →
      (tSeq (sDPut (tVar 1) (tTup (tCons (tVar 2) (tCons (tVar 3) tNil))) (tC (.bl true))) (sDPut (tVar 1) (tTup (tCons (tVar 3) (tCons (tVar 2) tNil))) (tC (.bl true)))) D ((σ.set 2 (some (.str c.2.1))).set 3 (some (.str c.2.2))) H1 := by
    intro i c σ H1 hc pv D hD
    rw [hPv] at pv
    obtain ⟨y2, y3, kvs, rfl, s1, e1, l1, v1⟩ := pv
    have hi : i < bs.length := (List.getElem?_eq_some_iff.mp hc).1
    refine ⟨_, rfl, _, rfl, _, rfl, (by show 2 ≤ sizeLine; decide), fun p hp' => ?_⟩
    have n1 : d ≠ p := ne_of_none e1 hp'
    have e2 : upd H1 p (.tup [.str c.2.1, .str c.2.2]) d = some (.dT kvs) := (upd_ne n1).trans e1
    refine ⟨d, _, rfl, DPut.t (k := k2 c.2.1 c.2.2) e2 upd_same (small9 (by omega)), ?_⟩
    have pl := putK_len (kvs := kvs) (k := k2 c.2.1 c.2.2) (v := V.bl true)
    refine ⟨_, rfl, _, rfl, _, rfl, (by show 2 ≤ sizeLine; decide), fun p2 hp2 => ?_⟩
    have n2 : d ≠ p2 := fun z => by rw [← z, upd_same] at hp2; cases hp2
    refine ⟨d, _, rfl, DPut.t (k := k2 c.2.2 c.2.1) ((upd_ne n2).trans upd_same) upd_same (small9 (by omega)), ?_⟩
    have pl2 := putK_len (kvs := putK kvs (k2 c.2.1 c.2.2) (V.bl true)) (k := k2 c.2.2 c.2.1) (v := V.bl true)
    rw [hD, hPv]
    refine ⟨_, _, _, rfl, fun b o e => ?_, upd_same, by omega, fun x y => ?_⟩
    · have nb : b ≠ d := ne_of_none e hd
      rw [upd_ne nb]
      refine same_upd hp2 _ _ ?_
      rw [upd_ne nb]
      exact same_upd hp' _ _ (s1 _ _ e)
    · rw [both_put v1, List.take_add_one, List.getElem?_map, hc]
      rfl
  have fin : ∀ (σ : L2.St) (H1 : Hp), Pv (refs bs).length σ H1 → ∃ v, σ[1]? = some (some v) ∧ Q v H1 := by
    intro σ H1 pv
    rw [hPv] at pv
    obtain ⟨y2, y3, kvs, rfl, s1, e1, l1, v1⟩ := pv
    refine ⟨.ref d, rfl, q d H1 s1 hd ⟨kvs, e1, fun x y => ?_⟩⟩
    rw [v1, List.take_of_length_le (by show (bs.map _).length ≤ (bs.map _).length; rw [List.length_map, List.length_map]; exact Nat.le_refl _)]
  have item : ∀ (i : Nat) (v : V) (σ : L2.St) (H1 : Hp), (refs bs)[i]? = some v → Pv i σ H1 → ∃ c : B3, bs[i]? = some c ∧ v = .ref c.1 ∧ H1 c.1 = some (.tup [.str c.2.1, .str c.2.2]) := by
    intro i v σ H1 e pv
    rw [hPv] at pv
    obtain ⟨y2, y3, kvs, rfl, s1, e1, l1, v1⟩ := pv
    obtain ⟨c, hc, rfl⟩ := at_map e
    exact ⟨c, hc, rfl, s1 _ _ (hp c (List.mem_of_getElem? hc))⟩
  have stay : ∀ (i : Nat) (σ : L2.St) (H1 : Hp), Pv i σ H1 → Same H H1 := by
    intro i σ H1 pv
    rw [hPv] at pv
    obtain ⟨y2, y3, kvs, rfl, s1, _⟩ := pv
    exact s1
  rcases ha with e | e
  · refine .inr ⟨.ref a, rfl, a, rfl, ⟨_, .inl (.inl (s0 _ _ e))⟩, ?_⟩
    refine for_it (walk_tup (xs := refs bs)) Pv start (fun i σ H1 _ pv => .inl (.inl (stay i σ H1 pv _ _ e))) ?_ fin
    rintro i v σ H2 H1 hi pv ⟨rfl, e2⟩
    obtain ⟨c, hc, rfl, h3⟩ := item i v σ _ e2 pv
    exact ⟨c.1, _, rfl, .inl (.inl h3), rfl, _, _, rfl, _, _, rfl, rfl, turn i c σ _ hc pv _ rfl⟩
  · refine .inl ⟨.ref a, rfl, a, rfl, ⟨_, .inl (.inl (s0 _ _ e))⟩, ?_⟩
    refine for_it (walk_list (xs := refs bs)) Pv start (fun i σ H1 _ pv => .inl (.inl (stay i σ H1 pv _ _ e))) ?_ fin
    rintro i v σ H2 H1 hi pv ⟨rfl, e2⟩
    obtain ⟨c, hc, rfl, h3⟩ := item i v σ _ e2 pv
    exact ⟨c.1, _, rfl, .inl (.inl h3), rfl, _, _, rfl, _, _, rfl, rfl, turn i c σ _ hc pv _ rfl⟩
/-! ### last_friend_place -/
abbrev sLfp : Stmt := topS 2
abbrev nLfp : List Str := ["known", "row", "who", "places", "place", "other"]
theorem scLfp : FnScope nLfp ["known", "row", "who"] (defScope sLfp) := ⟨rfl, rfl, rfl, by decide +kernel, rfl, by decide +kernel, by decide +kernel⟩
theorem ok_lfp {f : Addr} {fd : FuncData} (B : Blt mg) (F : Fun K "last_friend_place" "last_friend_place" sLfp f fd) : FnOk P w K mg base CX0 1 f fd ["known", "row", "who"] spLfp := by
  refine fok F scLfp (fun vs H Q E h => ?_) (fun cdv A outer s H vs Q E hr h => ?_)
  · obtain ⟨d, r, ps, row, who, rfl, _⟩ := h
    rfl
  obtain ⟨d, r, ps, row, who, rfl, hd, hrow, hn, q⟩ := h
  have hu := hu_of hr
  refine ⟨_, pss_cons (ps_setLc (i := 3) (own := [("place", 4), ("other", 5)]) (g := gTup K 2 (gCons (gName 4) (gCons (gName 5) gNil))) (tt := tB (tDIn (tTup (tCons (tVar 2) (tCons (tVar 5) tNil))) (tVar 0))) rfl scLfp.nd rfl rfl (sw_true rfl rfl rfl (by decide +kernel)) (pi_or2 (pi_enum (by rfl) B.enumerate (pa_cons (pv 1) pa_nil)) (pi_enumT (by rfl) B.enumerate (pa_cons (pv 1) pa_nil))) (blkOk_by (N := nLfp) (sc := defScope sLfp) (by decide +kernel))
        (fun _ _ _ _ _ => pg_tup rfl (pgs_cons (pg_name (i := 4) scLfp.nd rfl (Or.inl rfl)) (pgs_cons (pg_name (i := 5) scLfp.nd rfl (Or.inl rfl)) pgs_nil)))
        (fun _ _ _ _ _ => pts_one (pt_cmp (pc_din hu (pe_tup (pa_cons (pv 2) (pa_cons (pv 5) pa_nil))) (pv 0)))) (fun _ _ _ _ _ => pv 4))
    (pss_one (ps_ret (pe_ifExp (pt_truth (pv 3) (by intro _; rfl)) (pe_ix ix_list (pv 3) (pe_un un_neg pe_int) (fun _ _ => rfl)) pe_non))), ?_⟩
  have key : ∀ (J : It) (G : Hp → Prop), Walk J (row.map V.str).length G (YPair (fun i => some (.int (i : Nat))) (fun i => (row.map V.str)[i]?)) → (∀ H', Same H H' → G H') → ∀ D, H D = none → ∀ (Qd : Hp → Prop), (∀ H' (ls : List Int), Same H H' → H' D = some (.lst (ls.map V.int)) → ls.getLast? = (lastP (frd ps who) row).map (fun k => (k : Int)) → Qd H') →
      ∃ W : Nat → Nat → Hp → Prop, (∃ m, W 0 m (upd H D (.lst []))) ∧ ∀ i m H, W i m H →
      (J.stop i H ∧ Qd H) ∨ (J.go i H ∧ ∃ Nx : Hp → Prop, (∀ H', Nx H' → ∃ m', m' < m ∧ W (i + 1) m' H') ∧ ∀ x H', J.yld i H x H' → (gTup K 2 (gCons (gName 4) (gCons (gName 5) gNil))) x (wipe [some (.ref d), some (.ref r), some (.str who), none, none, none] [4, 5]) H' fun σ2 H2 => wipe σ2 [4, 5] = wipe [some (.ref d), some (.ref r), some (.str who), none, none, none] [4, 5] ∧ (tB (tDIn (tTup (tCons (tVar 2) (tCons (tVar 5) tNil))) (tVar 0))) σ2 H2 fun b H3 =>
        if b = true then (tVar 4) σ2 H3 fun y H4 => ∃ acc, H4 D = some (.lst acc) ∧ acc.length < sizeLine ∧ Nx (upd H4 D (.lst (acc ++ [y]))) else Nx H3) := by
    intro J G wk hG D hD Qd fin
    refine lc_it wk (fun i H' => ∃ ls : List Int, Same H H' ∧ H' D = some (.lst (ls.map V.int)) ∧ ls.length ≤ i ∧ ls.getLast? = (lastP (frd ps who) (row.take i)).map (fun k => (k : Int))) ?_ ?_ ?_ ?_
    · exact ⟨[], same_upd hD, upd_same, Nat.zero_le _, rfl⟩
    · rintro i H' _ ⟨ls, s1, _⟩
      exact hG H' s1
    · rintro i v H1 H2 hi ⟨ls, s1, d1, m1, g1⟩ ⟨T, x1, x2, rfl, nT, rfl, e1, e2⟩
      cases e1
      obtain ⟨o, ho, rfl⟩ := at_map e2
      rw [List.length_map] at hi
      have s2 := s1.trans (same_upd (o := .tup [.int (i : Nat), .str o]) nT)
      refine ⟨T, _, rfl, .inl (.inl upd_same), rfl, _, _, rfl, _, _, rfl, rfl, rfl, ?_⟩
      refine ⟨_, rfl, _, rfl, (by show 2 ≤ sizeLine; decide), fun p hp => ?_⟩
      have s3 := s2.trans (same_upd (o := .tup [.str who, .str o]) hp)
      obtain ⟨kvs, k1, k3⟩ := hd.same s3
      have nDT : D ≠ T := ne_of_none d1 nT
      have d2 : upd H1 T (.tup [.int (i : Nat), .str o]) D = some (.lst (ls.map V.int)) := (upd_ne nDT).trans d1
      have nDp : D ≠ p := ne_of_none d2 hp
      have d3 := (upd_ne (o := .tup [.str who, .str o]) nDp).trans d2
      refine ⟨.ref d, rfl, d, _, rfl, DGet.t (k := k2 who o) k1 upd_same, _, rfl, ?_⟩
      rw [k3]
      have lt := lastP_take (frd ps who) ho
      refine ite2 (fun c => ?_) (fun c => ?_)
      · rw [if_pos c] at lt
        refine ⟨_, rfl, _, d3, ?_, ls ++ [(i : Int)], fun b o' e => ?_, ?_, ?_, ?_⟩
        · rw [List.length_map]
          exact small1000 (by omega)
        · rw [upd_ne (ne_of_none e hD)]
          exact s3 _ _ e
        · rw [upd_same, List.map_append]
          rfl
        · rw [List.length_append]
          show ls.length + 1 ≤ i + 1
          omega
        · rw [lt, List.getLast?_append]
          rfl
      · rw [if_neg c] at lt
        exact ⟨ls, s3, d3, by omega, by rw [lt]; exact g1⟩
    · rintro H1 ⟨ls, s1, d1, m1, g1⟩
      rw [List.length_map, List.take_of_length_le (Nat.le_refl _)] at g1
      exact fin H1 ls s1 d1 g1
  have last : ∀ (D : Addr) (H' : Hp) (ls : List Int), Same H H' → H' D = some (.lst (ls.map V.int)) → ls.getLast? = (lastP (frd ps who) row).map (fun k => (k : Int)) →
      (tRet (tIf (fun σ H Q => tVar 3 σ H fun x H1 => ∃ k, TruV K x H1 k ∧ Q k H1) (tOp (rIxL K) (tVar 3) (tUn (rU fun i => .int (-i)) (tC (.int 1)))) (tC .non))) { nx := fun _ H' => Q .non H', rt := Q } [some (.ref d), some (.ref r), some (.str who), some (.ref D), none, none] H' := by
    intro D H' ls s1 d1 g1
    refine ⟨.ref D, rfl, _, .inl ⟨_, .inl (.inl d1), rfl⟩, ite2 (fun c => ?_) (fun c => ?_)⟩
    · obtain ⟨z, hz⟩ : ∃ z, ls.getLast? = some z := by
        cases h : ls.getLast? with
        | some z => exact ⟨z, rfl⟩
        | none =>
          rw [List.getLast?_eq_none_iff.mp h] at c
          cases c
      obtain ⟨ys, hz'⟩ := List.getLast?_eq_some_iff.mp hz
      have ev : lfpV (lastP (frd ps who) row) = .int z := by
        rw [hz] at g1
        cases e : lastP (frd ps who) row with
        | none => rw [e] at g1; cases g1
        | some k =>
          rw [e] at g1
          have : z = (k : Int) := Option.some.inj g1
          rw [this]
          rfl
      refine ⟨.ref D, rfl, 1, rfl, D, _, -1, .int z, rfl, rfl, .inl (.inl d1), ?_, ?_⟩
      · rw [hz', List.map_append]
        exact atI_last _ _
      · rw [← ev]
        exact q H' s1
    · have e : lfpV (lastP (frd ps who) row) = .non := by
        cases h : lastP (frd ps who) row with
        | none => rfl
        | some k =>
          rw [h] at g1
          cases ls with
          | nil => cases g1
          | cons x r => exact absurd rfl c
      show Q .non H'
      rw [← e]
      exact q H' s1
  rcases hrow with e | e
  · refine .inr ⟨.ref r, rfl, r, _, rfl, e.sq, fun D hD => ?_⟩
    exact key _ _ walk_enumT (fun H' s => (e.same s).sq) D hD _ (fun H' ls s1 d1 g1 => last D H' ls s1 d1 g1)
  · refine .inl ⟨.ref r, rfl, r, _, rfl, .inl (.inl e), fun D hD => ?_⟩
    exact key _ _ walk_enum (fun H' s => .inl (.inl (s _ _ e))) D hD _ (fun H' ls s1 d1 g1 => last D H' ls s1 d1 g1)
/-! ### loose_at, is_loose, loose_in -/
abbrev sLooseAt : Stmt := topS 4
abbrev nLooseAt : List Str := ["known", "row", "place", "last"]
theorem scLooseAt : FnScope nLooseAt ["known", "row", "place"] (defScope sLooseAt) := ⟨rfl, rfl, rfl, by decide +kernel, rfl, by decide +kernel, by decide +kernel⟩
theorem ok_looseAt {f : Addr} {fd : FuncData} (B : Blt mg) (CL : Cal P w K mg base 1 "last_friend_place" ["known", "row", "who"] spLfp) (F : Fun K "loose_at" "loose_at" sLooseAt f fd) : FnOk P w K mg base CX0 2 f fd ["known", "row", "place"] spLooseAt := by
  refine fok F scLooseAt (fun vs H Q E h => ?_) (fun cdv A outer s H vs Q E hr h => ?_)
  · obtain ⟨d, r, ps, row, x, i, rfl, _⟩ := h
    rfl
  obtain ⟨d, r, ps, row, x, i, rfl, hd, hrow, hn, hi, q⟩ := h
  refine ⟨_, pss_cons (ps_set (i := 3) scLooseAt.nd rfl (.inl rfl) (pe_cal CL hr (pa_cons (pv 0) (pa_cons (pv 1) (pa_cons (pe_ix ix_seq (pv 1) (pv 2) (fun _ _ => rfl)) pa_nil)))))
    (pss_cons (ps_if (pt_cmp (pc_isN (pv 3))) (pss_one (ps_ret (pe_cmpR op_eq (pv 2) (pe_op op_sub (pe_callB call_len_seq (by rfl) B.len PySem.boot_len (pa_cons (pv 1) pa_nil)) pe_int) (nomark _)))) pss_nil)
    (pss_one (ps_ret (pe_cmpR op_eq (pv 3) (pe_op op_sub (pv 2) pe_int) (nomark _))))), ?_⟩
  have hlt : i < row.length := (List.getElem?_eq_some_iff.mp hi).1
  have fin : ∀ H2, Same H H2 → (tSeq (tIfS (tB (tIsN (tVar 3))) (tRet (tOp rEq (tVar 2) (tOp (rI0 fun i j => .int (i - j)) (tCB (fun xs H Q => ∃ p ys, xs = [.ref p] ∧ (SqL K H p ys ∨ SqT K H p ys) ∧ Q (.int ys.length) H) (tCons (tVar 1) tNil)) (tC (.int 1))))) tNext) (tRet (tOp rEq (tVar 3) (tOp (rI0 fun i j => .int (i - j)) (tVar 2) (tC (.int 1)))))) { nx := fun _ H' => Q .non H', rt := Q } [some (.ref d), some (.ref r), some (.int (i : Nat)), some (lfpV (lastP (frd ps x) row))] H2 := by
    intro H2 s2
    have q2 := q H2 s2
    unfold looseB at q2
    refine ⟨_, rfl, _, rfl, ?_⟩
    cases e : lastP (frd ps x) row with
    | none =>
      rw [e] at q2
      have sq : SqL K H2 r (row.map V.str) ∨ SqT K H2 r (row.map V.str) := (hrow.same s2).elim (fun e => .inr e.sq) (fun e => .inl (.inl (.inl e)))
      refine ⟨_, rfl, .ref r, rfl, r, _, rfl, sq, _, _, rfl, rfl, rfl, ?_⟩
      have ed : decide (V.int (i : Int) = V.int ((((row.map V.str).length : Nat) : Int) - 1)) = decide (i + 1 = row.length) := by
        rw [List.length_map]
        refine decide_eq_decide.mpr ⟨fun z => ?_, fun z => congrArg V.int (by omega)⟩
        have := V.int.inj z
        omega
      rw [ed]
      exact q2
    | some k =>
      rw [e] at q2
      refine ⟨_, rfl, _, rfl, _, _, rfl, rfl, rfl, ?_⟩
      have ed : decide (V.int (k : Int) = V.int ((i : Int) - 1)) = decide (k + 1 = i) := by
        refine decide_eq_decide.mpr ⟨fun z => ?_, fun z => congrArg V.int (by omega)⟩
        have := V.int.inj z
        omega
      show Q (.bl (decide (V.int (k : Int) = V.int ((i : Int) - 1)))) H2
      rw [ed]
      exact q2
  refine ⟨_, rfl, .ref r, rfl, .ref r, rfl, _, rfl, ?_⟩
  rcases hrow with e | e
  · refine .inr (.inl ⟨r, _, i, .str x, rfl, rfl, e.sq, atI_nat (ix_map hi), d, r, ps, row, x, rfl, hd, .inl e, hn, fun H2 s2 => fin H2 s2⟩)
  · refine .inl ⟨r, _, i, .str x, rfl, rfl, .inl (.inl e), atI_nat (ix_map hi), d, r, ps, row, x, rfl, hd, .inr e, hn, fun H2 s2 => fin H2 s2⟩
/-! ### _law_loose -/
abbrev sLoose : Stmt := topS 20
abbrev nLoose : List Str := ["_law_pals_here", "_law_stand", "_law_name", "_law_spot"]
theorem scLoose : FnScope nLoose ["_law_pals_here", "_law_stand", "_law_name"] (defScope sLoose) := ⟨rfl, rfl, rfl, by decide +kernel, rfl, by decide +kernel, by decide +kernel⟩
theorem ok_loose {f : Addr} {fd : FuncData} (CC : Cal P w K mg base 2 "_law_come" ["_law_pals_here", "_law_stand", "_law_name"] spCome) (F : Fun K "_law_loose" "_law_loose" sLoose f fd) : FnOk P w K mg base CX0 3 f fd ["_law_pals_here", "_law_stand", "_law_name"] spLoose := by
  refine fok F scLoose (fun vs H Q E h => ?_) (fun cdv A outer s H vs Q E hr h => ?_)
  · obtain ⟨a, t, ps, stand, x, i, rfl, _⟩ := h
    rfl
  obtain ⟨a, t, ps, stand, x, i, rfl, ha, ho, irr, ht, gs, nd, hn, hi, q⟩ := h
  refine ⟨_, pss_cons (ps_set (i := 3) scLoose.nd rfl (.inl rfl) (pe_bmT PySem.F.slot_tuple_index PySem.F.type_tuple_index mt_tup_index (pv 1) (pa_cons (pv 2) pa_nil)))
    (pss_one (ps_ret (pe_cmpR (op_eqT hr.units) (pe_cal CC hr (pa_cons (pv 0) (pa_cons (pe_op op_catM (pe_slice sl_tupM (pv 1) po_none (po_some (pv 3))) (pe_slice sl_tupM (pv 1) (po_some (pe_op op_add (pv 3) pe_int)) po_none)) (pa_cons (pv 2) pa_nil)))) (pv 1) (nomark _)))), ?_⟩
  have hlt : i < stand.length := (List.getElem?_eq_some_iff.mp hi).1
  refine ⟨.ref t, rfl, ⟨t, _, rfl, ht⟩, _, rfl, t, stand, x, i, rfl, rfl, ht.sq, hi, nd_first nd hi, ?_⟩
  refine ⟨_, rfl, .ref t, rfl, _, rfl, _, rfl, t, _, rfl, ht, fun t1 H1 s1 e1 => ?_⟩
  rw [cutV_map, cutL_to] at e1
  refine ⟨.ref t, rfl, _, rfl, _, _, rfl, rfl, _, rfl, t, _, rfl, ht.same s1, fun t2 H2 s2 e2 => ?_⟩
  rw [cutV_map, show ((i : Int) + 1) = ((i + 1 : Nat) : Int) from rfl, cutL_from] at e2
  refine ⟨t1, t2, _, _, rfl, rfl, e1.same s2, e2, ?_, fun t3 H3 s3 e3 => ?_⟩
  · rw [List.length_map, List.length_map, List.length_take, List.length_drop]
    exact small_le (by omega)
  rw [← List.map_append] at e3
  have gl : Goods (stand.take i ++ stand.drop (i + 1)) := fun y hy => (List.mem_append.mp hy).elim (fun z => gs y (List.mem_of_mem_take z)) (fun z => gs y (List.mem_of_mem_drop z))
  have s13 := (s1.trans s2).trans s3
  refine ⟨_, rfl, a, t3, ps, _, x, rfl, ha.same s13, ho, e3, gl, gs.at_ hi, ?_, fun t4 H4 s4 e4 => ?_⟩
  · rw [List.length_append, List.length_take, List.length_drop]
    omega
  have gc : Goods (comeTo ps (stand.take i ++ stand.drop (i + 1)) x) := fun y hy => by
    rcases List.mem_cons.mp ((come_perm ps _ x).mem_iff.mp hy) with z | z
    · rw [z]
      exact gs.at_ hi
    · exact gl y z
  refine ⟨_, rfl, t4, t, _, _, rfl, rfl, e4, ht.same (s13.trans s4), gc, gs, ?_⟩
  rw [loose_iff nd hi irr]
  exact q H4 (s13.trans s4)
/-! ### hindmost_loose, gone_and_left, goers, left_over -/
abbrev sHind : Stmt := topS 5
abbrev nHind : List Str := ["known", "row", "but", "place"]
theorem scHind : FnScope nHind ["known", "row", "but"] (defScope sHind) := ⟨rfl, rfl, rfl, by decide +kernel, rfl, by decide +kernel, by decide +kernel⟩
theorem ok_hind {f : Addr} {fd : FuncData} (B : Blt mg) (CL : Cal P w K mg base 2 "loose_at" ["known", "row", "place"] spLooseAt) (F : Fun K "hindmost_loose" "hindmost_loose" sHind f fd) : FnOk P w K mg base CX0 3 f fd ["known", "row", "but"] (spHind K) := by
  refine fok F scHind (fun vs H Q E h => ?_) (fun cdv A outer s H vs Q E hr h => ?_)
  · obtain ⟨d, r, p, ps, row, stay, rfl, _⟩ := h
    rfl
  obtain ⟨d, r, p, ps, row, stay, rfl, hd, e, hn, hb, q⟩ := h
  refine ⟨_, pss_cons (ps_for PassesOwn.never rfl (pi_range3 (by rfl) B.range (pa_cons (pe_op op_sub (pe_callB call_len_seq (by rfl) B.len PySem.boot_len (pa_cons (pv 1) pa_nil)) pe_int) (pa_cons (pe_un un_neg pe_int) (pa_cons (pe_un un_neg pe_int) pa_nil)))) (pg_name (i := 3) scHind.nd rfl (.inl rfl))
      (pss_one (ps_if (PW.pt (pw_and (pt_cmpR op_notIn_seq (pe_ix ix_list (pv 1) (pv 3) (fun _ _ => rfl)) (pv 2) (by rfl)) (pw_and1 (pt_val (pe_cal CL hr (pa_cons (pv 0) (pa_cons (pv 1) (pa_cons (pv 3) pa_nil)))))))) (pss_one (ps_ret (pv 3))) pss_nil)))
    (pss_one (ps_ret pe_non)), ?_⟩
  refine ⟨.ref r, rfl, r, _, rfl, .inl (.inl (.inl e)), _, _, rfl, rfl, 1, rfl, 1, rfl, _, _, _, _, rfl, RgC.neg ?_ ?_ (by decide) (by decide), ?_⟩
  · rw [List.length_map]
    omega
  · rw [List.length_map]
    omega
  rw [List.length_map]
  refine for_it (walk_rangeC (lo := (row.length : Int) - 1) (c := -1) (n := ((row.length : Int) - 1 - -1).toNat)) (fun k σ H' => ∃ (y3 : Option V), σ = [some (.ref d), some (.ref r), some (.ref p), y3] ∧ Same H H' ∧ someTo ps stay row (row.length - k) = someL ps stay row) ?_ (fun _ _ _ _ _ => trivial) ?_ ?_
  · exact ⟨_, rfl, Same.refl H, by rw [Nat.sub_zero, someTo_all]⟩
  · rintro k x σ H2 H1 hk ⟨y3, rfl, s1, g1⟩ ⟨rfl, rfl⟩
    have hk' : k < row.length := by omega
    obtain ⟨x, hx⟩ : ∃ x, row[row.length - 1 - k]? = some x := ⟨row[row.length - 1 - k]'(by omega), List.getElem?_eq_getElem _⟩
    have ei : ((row.length : Int) - 1 + (k : Int) * -1) = ((row.length - 1 - k : Nat) : Int) := by omega
    rw [show ((fun i : Nat => V.int ((row.length : Int) - 1 + (i : Int) * -1)) k) = V.int ((row.length - 1 - k : Nat) : Int) from congrArg V.int ei]
    have st := someTo_step (ps := ps) (stay := stay) hx
    rw [show row.length - 1 - k + 1 = row.length - k by omega, g1] at st
    have e1 := s1 _ _ e
    refine ⟨.ref r, rfl, _, rfl, r, _, _, .str x, rfl, rfl, .inl (.inl e1), atI_nat (ix_map hx), .ref p, rfl, p, _, rfl, hb _ s1, rfl, flat_strs _, _, rfl, ?_⟩
    rw [inV_strs]
    refine ite2 (fun c => ?_) (fun c => ?_)
    · have c' : (!decide (x ∈ stay)) = true := c
      refine ⟨_, rfl, _, rfl, _, rfl, d, r, ps, row, x, row.length - 1 - k, rfl, hd.same s1, .inr e1, hn, hx, fun H2 s2 => ⟨_, rfl, ?_⟩⟩
      refine ite2 (fun c2 => ?_) (fun c2 => ?_)
      · refine ⟨_, rfl, q _ H2 (s1.trans s2) ?_⟩
        rw [if_pos (by rw [c', c2]; rfl)] at st
        rw [st, List.getLast?_append]
        exact ⟨_, rfl, hx⟩
      · rw [if_neg (by rw [c', Bool.true_and]; exact c2), List.append_nil] at st
        exact ⟨_, rfl, s1.trans s2, by rw [show row.length - (k + 1) = row.length - 1 - k by omega]; exact st.symm⟩
    · have c' : ¬ (!decide (x ∈ stay)) = true := c
      rw [if_neg (by intro z; exact c' ((Bool.and_eq_true _ _ ▸ z).1)), List.append_nil] at st
      exact ⟨_, rfl, s1, by rw [show row.length - (k + 1) = row.length - 1 - k by omega]; exact st.symm⟩
  · rintro σ H1 ⟨y3, rfl, s1, g1⟩
    refine q _ H1 s1 ?_
    rw [← g1, show row.length - ((row.length : Int) - 1 - -1).toNat = 0 by omega]
    rfl
abbrev sStayed : Stmt := topS 6
abbrev nStayed : List Str := ["known", "row", "but", "left", "gone", "place"]
theorem scStayed : FnScope nStayed ["known", "row", "but"] (defScope sStayed) := ⟨rfl, rfl, rfl, by decide +kernel, rfl, by decide +kernel, by decide +kernel⟩
theorem ok_stayed {f : Addr} {fd : FuncData} (B : Blt mg) (CH : Cal P w K mg base 3 "hindmost_loose" ["known", "row", "but"] (spHind K)) (F : Fun K "gone_and_stayed" "gone_and_stayed" sStayed f fd) : FnOk P w K mg base CX0 4 f fd ["known", "row", "but"] (spStayed K) := by
  refine fok F scStayed (fun vs H Q E h => ?_) (fun cdv A outer s H vs Q E hr h => ?_)
  · obtain ⟨a, r, p, ps, row, stay, rfl, _⟩ := h
    rfl
  obtain ⟨d, r, p, ps, row, stay, rfl, k1, hrow, hd, hn, hb, q⟩ := h
  have h1 : Room 1 _ := hr.mono (by decide)
  refine ⟨_, (pss_cons (ps_set (i := 3) scStayed.nd rfl (.inl rfl) (pe_callTy call_list_of (by rfl) B.list (by decide +kernel) (pa_cons (pv 1) pa_nil)))
    (pss_cons (ps_set (i := 4) scStayed.nd rfl (.inl rfl) (pe_lst pa_nil))
    (pss_cons (ps_set (i := 5) scStayed.nd rfl (.inl rfl) (pe_cal CH hr (pa_cons (pv 0) (pa_cons (pv 3) (pa_cons (pv 2) pa_nil)))))
    (pss_cons (ps_while PassesOwn.never (pt_cmp (pc_notN (pv 5)))
      (pss_cons (ps_expr (pe_bm PySem.F.plainAttrs_list PySem.F.slot_list_append PySem.F.type_list_append mt_append (pv 4) (pa_cons (pe_bm PySem.F.plainAttrs_list PySem.F.slot_list_pop PySem.F.type_list_pop mt_popAt (pv 3) (pa_cons (pv 5) pa_nil)) pa_nil)))
      (pss_one (ps_set (i := 5) scStayed.nd rfl (.inl rfl) (pe_cal CH hr (pa_cons (pv 0) (pa_cons (pv 3) (pa_cons (pv 2) pa_nil))))))))
    (pss_one (ps_ret (pe_tup (pa_cons (pv 4) (pa_cons (pe_callTy call_tupleF (by rfl) B.tuple (by decide +kernel) (pa_cons (pv 3) pa_nil)) pa_nil))))))))), ?_⟩
  have sq : SqL K H r (row.map V.str) ∨ SqT K H r (row.map V.str) := hrow.elim (fun e => .inr e.sq) (fun e => .inl (.inl (.inl e)))
  refine ⟨.ref r, rfl, r, _, rfl, sq, fun le hle => ?_⟩
  have s2 := same_upd (o := .lst (row.map V.str)) hle
  refine ⟨(by show 0 ≤ sizeLine; decide), fun go hgo => ?_⟩
  have s3 := same_upd (o := .lst []) hgo
  have ngl : le ≠ go := fun z => by rw [← z, upd_same] at hgo; cases hgo
  have hle0 : H le = none := hle
  have hgo0 : H go = none := s2.free hgo
  have l3 : upd (upd H le (.lst (row.map V.str))) go (.lst []) le = some (.lst (row.map V.str)) := s3 _ _ upd_same
  have s03 := s2.trans s3
  refine ⟨_, rfl, _, rfl, _, rfl, d, le, p, ps, row, stay, rfl, (k1.same s2).same s3, l3, hn, (fun H' s => hb H' (s03.trans s)), fun v H4 s4 hv => ?_⟩
  refine while_by (fun σ H' => ∃ (acc cur : List Str) (v : V), σ = [some (.ref d), some (.ref r), some (.ref p), some (.ref le), some (.ref go), some v] ∧ Same H H' ∧ KnAt H' d ps ∧ H' le = some (.lst (cur.map V.str)) ∧ H' go = some (.lst (acc.map V.str)) ∧ cur.Nodup ∧ acc.length + cur.length = row.length ∧ hindV cur (someL ps stay cur).getLast? v ∧ acc ++ goneO ps stay cur = goneO ps stay row ∧ goneR ps stay cur = goneR ps stay row)
    (fun σ H' => match H' le with | some (.lst xs) => xs.length | _ => 0) ?_ ?_ ?_
  · exact ⟨[], row, v, rfl, s03.trans s4, ((k1.same s2).same s3).same s4, s4 _ _ l3, s4 _ _ upd_same, hd, Nat.zero_add _, hv, rfl, rfl⟩
  · rintro σ H5 ⟨acc, cur, v, rfl, s5, k5, l5, g5, d5, n5, v5, a5, r5⟩
    refine ⟨_, rfl, ?_⟩
    cases e : (someL ps stay cur).getLast? with
    | none =>
      rw [e] at v5
      have v5' : v = .non := v5
      subst v5'
      refine ⟨_, rfl, ?_⟩
      have en := List.getLast?_eq_none_iff.mp e
      obtain ⟨z1, z2⟩ := gone_none en
      rw [z1, List.append_nil] at a5
      rw [z2] at r5
      refine ⟨.ref go, rfl, .ref le, rfl, le, _, rfl, .inl ⟨.inl (.inl l5), fun t H6 s6 n6 t6 => ?_⟩⟩
      refine ⟨(by show 2 ≤ sizeLine; decide), fun T hT => ?_⟩
      have s7 := same_upd (o := .tup [.ref go, .ref t]) hT
      refine q T go t _ ((s5.trans s6).trans s7) hgo0 upd_same ?_ ?_
      · rw [← a5]
        exact s7 _ _ (s6 _ _ g5)
      · rw [← r5]
        exact t6.same s7
    | some x =>
      rw [e] at v5
      obtain ⟨i, rfl, hx⟩ := v5
      have hi : i < cur.length := (List.getElem?_eq_some_iff.mp hx).1
      obtain ⟨z1, z2⟩ := gone_some d5 e
      have rl := rem_len d5 (List.mem_of_getElem? hx)
      refine ⟨_, rfl, ?_⟩
      have ngl' : go ≠ le := Ne.symm ngl
      refine ⟨.ref go, rfl, .inl ⟨rfl, _, .inl (.inl g5)⟩, .ref le, rfl, .inl ⟨rfl, _, .inl (.inl l5)⟩, _, rfl, le, _, i, i, .str x, rfl, rfl, l5, by omega, by omega, ?_, ix_map hx, ?_⟩
      · rw [List.length_map]
        exact PyProof.Rows.seqIndex_at (by omega) (by omega)
      rw [erase_map, erase_rem d5 hx]
      have g6 : upd H5 le (.lst ((rem cur x).map V.str)) go = some (.lst (acc.map V.str)) := (upd_ne ngl').trans g5
      refine ⟨go, _, _, rfl, rfl, g6, ?_, ?_⟩
      · rw [List.length_map]
        exact small1000 (by omega)
      have l7 : upd (upd H5 le (.lst ((rem cur x).map V.str))) go (.lst (acc.map V.str ++ [.str x])) le = some (.lst ((rem cur x).map V.str)) := (upd_ne ngl).trans upd_same
      have s7 : Same H (upd (upd H5 le (.lst ((rem cur x).map V.str))) go (.lst (acc.map V.str ++ [.str x]))) := fun b o z => by
        rw [upd_ne (ne_of_none z hgo0), upd_ne (ne_of_none z hle0)]
        exact s5 _ _ z
      have k7 : KnAt (upd (upd H5 le (.lst ((rem cur x).map V.str))) go (.lst (acc.map V.str ++ [.str x]))) d ps := by
        obtain ⟨kvs, w1, w2⟩ := k5
        exact ⟨kvs, (upd_ne (ne_of w1 g5 (fun z => nomatch z))).trans ((upd_ne (ne_of w1 l5 (fun z => nomatch z))).trans w1), w2⟩
      refine ⟨_, rfl, _, rfl, _, rfl, d, le, p, ps, rem cur x, stay, rfl, k7, l7, by omega, (fun H' s => hb H' (s7.trans s)), fun v8 H8 s8 hv8 => ?_⟩
      refine ⟨⟨acc ++ [x], rem cur x, v8, rfl, s7.trans s8, k7.same s8, s8 _ _ l7, ?_, rem_nodup d5, ?_, hv8, ?_, ?_⟩, ?_⟩
      · rw [List.map_append]
        exact s8 _ _ upd_same
      · rw [List.length_append]
        show acc.length + 1 + _ = _
        omega
      · rw [List.append_assoc]
        show acc ++ (x :: goneO ps stay (rem cur x)) = _
        rw [← z1]
        exact a5
      · rw [← z2]
        exact r5
      · rw [s8 _ _ l7, l5]
        show ((rem cur x).map V.str).length < (cur.map V.str).length
        rw [List.length_map, List.length_map]
        omega
  · rintro σ H5 Q1 Q2 hQ ⟨y, hy, c, hc, z⟩
    exact ⟨y, hy, c, hc, hQ _ _ z⟩
abbrev sGone : Stmt := topS 7
abbrev nGone : List Str := ["friends", "row", "but"]
theorem scGone : FnScope nGone nGone (defScope sGone) := ⟨rfl, rfl, rfl, by decide +kernel, rfl, by decide +kernel, by decide +kernel⟩
theorem ok_gone {f : Addr} {fd : FuncData} (CB : Cal P w K mg base 1 "both_ways" ["friends"] spBoth) (CS : Cal P w K mg base 4 "gone_and_stayed" ["known", "row", "but"] (spStayed K)) (F : Fun K "gone_and_left" "gone_and_left" sGone f fd) : FnOk P w K mg base CX0 5 f fd ["friends", "row", "but"] (spGone K) := by
  refine fok F scGone (fun vs H Q E h => ?_) (fun cdv A outer s H vs Q E hr h => ?_)
  · obtain ⟨a, r, p, ps, row, stay, rfl, _⟩ := h
    rfl
  obtain ⟨a, r, p, ps, row, stay, rfl, ha, hp, hrow, hd, hn, hb, q⟩ := h
  refine ⟨_, pss_one (ps_ret (pe_cal CS hr (pa_cons (pe_cal CB hr (pa_cons (pv 0) pa_nil)) (pa_cons (pv 1) (pa_cons (pv 2) pa_nil))))), ?_⟩
  refine ⟨_, rfl, a, ps, rfl, ha, hp, fun d H1 s1 nd1 k1 => ?_⟩
  refine ⟨_, rfl, _, rfl, d, r, p, ps, row, stay, rfl, k1, hrow.same s1, hd, hn, (fun H' s => hb H' (s1.trans s)), fun T g t H2 s2 n2 eT eg et => ?_⟩
  exact q T g t H2 (s1.trans s2) (s1.free n2) eT eg et
abbrev sGoers : Stmt := topS 8
abbrev nGoers : List Str := ["friends", "row", "but", "gone", "left"]
theorem scGoers : FnScope nGoers ["friends", "row", "but"] (defScope sGoers) := ⟨rfl, rfl, rfl, by decide +kernel, rfl, by decide +kernel, by decide +kernel⟩
theorem ok_goers {f : Addr} {fd : FuncData} (CG : Cal P w K mg base 5 "gone_and_left" ["friends", "row", "but"] (spGone K)) (F : Fun K "goers" "goers" sGoers f fd) : FnOk P w K mg base CX0 6 f fd ["friends", "row", "but"] (spGoers K) := by
  refine fok F scGoers (fun vs H Q E h => ?_) (fun cdv A outer s H vs Q E hr h => ?_)
  · obtain ⟨a, r, p, ps, row, stay, rfl, _⟩ := h
    rfl
  obtain ⟨a, r, p, ps, row, stay, rfl, ha, hp, hrow, hd, hn, hb, q⟩ := h
  refine ⟨_, pss_cons (ps_asg (pe_cal CG hr (pa_cons (pv 0) (pa_cons (pv 1) (pa_cons (pv 2) pa_nil)))) (pg_tup rfl (pgs_cons (pg_name (i := 3) scGoers.nd rfl (.inl rfl)) (pgs_cons (pg_name (i := 4) scGoers.nd rfl (.inl rfl)) pgs_nil))))
    (pss_one (ps_ret (pv 3))), ?_⟩
  refine ⟨_, rfl, _, rfl, _, rfl, a, r, p, ps, row, stay, rfl, ha, hp, hrow, hd, hn, hb, fun T g t H1 s1 ng eT eg et => ?_⟩
  refine ⟨T, _, rfl, .inl (.inl eT), rfl, _, _, rfl, _, _, rfl, rfl, .ref g, rfl, ?_⟩
  exact q g H1 s1 ng eg
abbrev sLeft : Stmt := topS 9
abbrev nLeft : List Str := ["friends", "row", "but", "gone", "left"]
theorem scLeft : FnScope nLeft ["friends", "row", "but"] (defScope sLeft) := ⟨rfl, rfl, rfl, by decide +kernel, rfl, by decide +kernel, by decide +kernel⟩
theorem ok_left_over {f : Addr} {fd : FuncData} (CG : Cal P w K mg base 5 "gone_and_left" ["friends", "row", "but"] (spGone K)) (F : Fun K "left_over" "left_over" sLeft f fd) : FnOk P w K mg base CX0 6 f fd ["friends", "row", "but"] (spLeft K) := by
  refine fok F scLeft (fun vs H Q E h => ?_) (fun cdv A outer s H vs Q E hr h => ?_)
  · obtain ⟨a, r, p, ps, row, stay, rfl, _⟩ := h
    rfl
  obtain ⟨a, r, p, ps, row, stay, rfl, ha, hp, hrow, hd, hn, hb, q⟩ := h
  refine ⟨_, pss_cons (ps_asg (pe_cal CG hr (pa_cons (pv 0) (pa_cons (pv 1) (pa_cons (pv 2) pa_nil)))) (pg_tup rfl (pgs_cons (pg_name (i := 3) scLeft.nd rfl (.inl rfl)) (pgs_cons (pg_name (i := 4) scLeft.nd rfl (.inl rfl)) pgs_nil))))
    (pss_one (ps_ret (pv 4))), ?_⟩
  refine ⟨_, rfl, _, rfl, _, rfl, a, r, p, ps, row, stay, rfl, ha, hp, hrow, hd, hn, hb, fun T g t H1 s1 ng eT eg et => ?_⟩
  refine ⟨T, _, rfl, .inl (.inl eT), rfl, _, _, rfl, _, _, rfl, rfl, .ref t, rfl, ?_⟩
  exact q t H1 s1 et
theorem cal_goers {f D E : Addr} {oc : Value} {od an ed : Option Addr} {osl es : Array (Option Value)} {doc pm cdv ct : Value} {en : Nat}
    (l : K.lookup f = some ⟨oc, od, .func (PySem.W.fnOf "goers" "goers" (defArgs sGoers) (defBody sGoers) (defScope sGoers) .none (.ref D) doc pm an cdv ct), osl⟩) (c : PySem.W.codeIn K cdv "goers" = true) (kp : PySem.W.keepIn K (.ref f) = true) (n : PySem.W.nsIn K D "but" = some (some (.ref E)))
    (e : K.lookup E = some ⟨.type "tuple", ed, .seq #[] en, es⟩) (hm : mg "goers" = some (.ref f)) (CG : Cal P w K mg base 5 "gone_and_left" ["friends", "row", "but"] (spGone K)) : Cal3 P w K mg base 6 "goers" (spGoers K) E :=
  cal3_mk l c kp n e hm (ok_goers CG (fun_mk l c kp)) (fun _ _ _ _ _ _ us ws h1 h2 => match us, ws, h1, h2 with | [_, _], [_], _, _ => rfl) (fun _ _ _ _ _ _ ws h => match ws, h with | [_, _, _], _ => rfl)
    (fun _ _ _ _ _ _ us ks h1 h2 => match us, ks, h1, h2 with | [_, _], [_], _, _ => ⟨_, _, _, _, _, _, rfl, rfl, rfl⟩) (fun _ _ _ _ _ _ mv ws h1 h2 => match mv, ws, h1, h2 with | [_], [_, _], _, _ => ⟨_, _, _, _, _, _, rfl, rfl, rfl⟩)
theorem cal_left_over {f D E : Addr} {oc : Value} {od an ed : Option Addr} {osl es : Array (Option Value)} {doc pm cdv ct : Value} {en : Nat}
    (l : K.lookup f = some ⟨oc, od, .func (PySem.W.fnOf "left_over" "left_over" (defArgs sLeft) (defBody sLeft) (defScope sLeft) .none (.ref D) doc pm an cdv ct), osl⟩) (c : PySem.W.codeIn K cdv "left_over" = true) (kp : PySem.W.keepIn K (.ref f) = true) (n : PySem.W.nsIn K D "but" = some (some (.ref E)))
    (e : K.lookup E = some ⟨.type "tuple", ed, .seq #[] en, es⟩) (hm : mg "left_over" = some (.ref f)) (CG : Cal P w K mg base 5 "gone_and_left" ["friends", "row", "but"] (spGone K)) : Cal3 P w K mg base 6 "left_over" (spLeft K) E :=
  cal3_mk l c kp n e hm (ok_left_over CG (fun_mk l c kp)) (fun _ _ _ _ _ _ us ws h1 h2 => match us, ws, h1, h2 with | [_, _], [_], _, _ => rfl) (fun _ _ _ _ _ _ ws h => match ws, h with | [_, _, _], _ => rfl)
    (fun _ _ _ _ _ _ us ks h1 h2 => match us, ks, h1, h2 with | [_, _], [_], _, _ => ⟨_, _, _, _, _, _, rfl, rfl, rfl⟩) (fun _ _ _ _ _ _ mv ws h1 h2 => match mv, ws, h1, h2 with | [_], [_, _], _, _ => ⟨_, _, _, _, _, _, rfl, rfl, rfl⟩)
/-! ### _law_gone -/
abbrev sLGone : Stmt := topS 25
abbrev nLGone : List Str := ["_law_box_here", "_law_pals_here", "_law_stand", "_law_stay", "_law_out", "_law_turn", "_law_some", "_law_name"]
abbrev pLGone : List Str := ["_law_box_here", "_law_pals_here", "_law_stand", "_law_stay"]
theorem scLGone : FnScope nLGone pLGone (defScope sLGone) := ⟨rfl, rfl, rfl, by decide +kernel, rfl, by decide +kernel, by decide +kernel⟩
theorem ok_lgone {f : Addr} {fd : FuncData} (B : Blt mg) (CT : Cal P w K mg base 1 "_law_take" ["_law_box_here", "_law_many"] spTake) (CO : Cal P w K mg base 3 "_law_loose" ["_law_pals_here", "_law_stand", "_law_name"] spLoose) (CH : Cal P w K mg base 1 "_law_thinned" ["_law_some", "_law_name"] spThinned)
    (F : Fun K "_law_gone" "_law_gone" sLGone f fd) : FnOk P w K mg base CX0 4 f fd pLGone spLGone := by
  refine fok F scLGone (fun vs H Q E h => ?_) (fun cdv A outer s H vs Q E hr h => ?_)
  · obtain ⟨b, a, t, st, bx, ps, stand, stay, rfl, _⟩ := h
    rfl
  obtain ⟨b, a, t, st, bx, ps, stand, stay, rfl, hb, hbx, ha, ho, irr, ht, gst, nds, hn, hst, q⟩ := h
  have h1 : Room 1 _ := hr.mono (by decide)
  refine ⟨_, pss_cons (ps_set (i := 4) scLGone.nd rfl (.inl rfl) (pe_lst pa_nil))
    (pss_cons (ps_for PassesOwn.never rfl (pi_range1 (by rfl) B.range (pa_cons (pe_callB call_len_seq (by rfl) B.len PySem.boot_len (pa_cons (pv 2) pa_nil)) pa_nil)) (pg_name (i := 5) scLGone.nd rfl (.inl rfl))
      (pss_cons (ps_setLc (i := 6) (own := [("_law_name", 7)]) (g := gName 7) (tt := tAnd (tTest (tOp (rIn K true) (tVar 7) (tVar 3))) (tB (tCall spLoose [] E0 (tCons (tVar 1) (tCons (tVar 2) (tCons (tVar 7) tNil)))))) rfl scLGone.nd rfl rfl (sw_true rfl rfl rfl (by decide +kernel)) (pi_tup (pv 2)) (blkOk_by (N := nLGone) (sc := defScope sLGone) (by decide +kernel)) (fun _ _ _ _ _ => pg_name (i := 7) scLGone.nd rfl (Or.inl rfl))
          (fun _ _ _ _ _ => pts_one (PW.pt (pw_and (pt_cmpR op_notIn_seq (pv 7) (pv 3) (by rfl)) (pw_and1 (pt_val (pe_cal CO hr (pa_cons (pv 1) (pa_cons (pv 2) (pa_cons (pv 7) pa_nil))))))))) (fun _ _ _ _ _ => pv 7))
      (pss_one (ps_if (pt_cmpR (op_neNil hr.units) (pv 6) (pe_lst pa_nil) (nomark _))
        (pss_cons (ps_set (i := 7) scLGone.nd rfl (.inl rfl) (pe_mid (pe_ifExp (pt_cmp (pc_isN (pv 0))) (pe_ix ix_list (pv 6) (pe_un un_neg pe_int) (fun _ _ => rfl)) (pe_ix ix_list (pv 6) (pe_cal CT h1 (pa_cons (pv 0) (pa_cons (pe_callB call_len_seq (by rfl) B.len PySem.boot_len (pa_cons (pv 6) pa_nil)) pa_nil))) (fun _ _ => rfl)))))
        (pss_cons (ps_expr (pe_bm PySem.F.plainAttrs_list PySem.F.slot_list_append PySem.F.type_list_append mt_append (pv 4) (pa_cons (pv 7) pa_nil)))
        (pss_one (ps_set (i := 2) scLGone.nd rfl (.inr rfl) (pe_cal CH h1 (pa_cons (pv 2) (pa_cons (pv 7) pa_nil))))))) pss_nil))))
    (pss_one (ps_ret (pe_tup (pa_cons (pv 4) (pa_cons (pv 2) pa_nil)))))), ?_⟩
  refine ⟨(by show 0 ≤ sizeLine; decide), fun g hg => ?_⟩
  have s0 := same_upd (o := .lst []) hg
  have ngb : g ≠ b := hb.ne_none hg
  refine ⟨.ref t, rfl, t, _, rfl, .inr (ht.same s0).sq, _, rfl, ?_, ?_, ?_⟩
  · rw [List.length_map]; omega
  · rw [List.length_map]; omega
  rw [List.length_map]
  refine for_it (walk_range (lo := 0) (n := ((stand.length : Int)).toNat)) (fun k σ H' => ∃ (t1 : Addr) (cur acc : List Str) (y5 y6 y7 : Option V), σ = [some bx, some (.ref a), some (.ref t1), some (.ref st), some (.ref g), y5, y6, y7] ∧ Oth b H H' ∧ IsBox H' b ∧ PalsAt H' a ps ∧ TupAt H' t1 (cur.map V.str) ∧ TupAt H' st (stay.map V.str) ∧ H' g = some (.lst (acc.map V.str)) ∧ Red ps stay stand cur ∧ acc.length ≤ k ∧ (cur.length + k = stand.length ∨ someL ps stay cur = []) ∧ (bx = .non → acc ++ goneO ps stay cur = goneO ps stay stand ∧ goneR ps stay cur = goneR ps stay stand)) ?_ (fun _ _ _ _ _ => trivial) ?_ ?_
  · exact ⟨t, stand, [], _, _, _, rfl, Oth.of s0, hb.same s0, ha.same s0, ht.same s0, hst.same s0, upd_same, .done _, Nat.zero_le _, .inl rfl, fun _ => ⟨rfl, rfl⟩⟩
  · rintro k x σ H2 H1 hk ⟨t1, cur, acc, y5, y6, y7, rfl, o1, b1, a1, c1, st1, g1, r1, m1, d1, w1⟩ ⟨rfl, rfl⟩
    have ndc := r1.nodup nds
    have cl := r1.len
    have gc : Goods cur := fun y hy => gst y (r1.sub y hy)
    -- some
    refine ⟨.ref t1, rfl, t1, rfl, ⟨_, c1.sq⟩, fun D hD => ?_⟩
    refine lc_it (walk_tup (xs := cur.map V.str)) (fun j H' => Same H1 H' ∧ H' D = some (.lst ((someTo ps stay cur j).map V.str))) ?_ ?_ ?_ ?_
    · exact ⟨same_upd hD, upd_same⟩
    · rintro j H' _ ⟨s, _⟩
      exact (c1.same s).sq
    · rintro j x H3 H2 hj ⟨s2, d2⟩ ⟨rfl, ex⟩
      obtain ⟨nm, hnm, rfl⟩ := at_map ex
      rw [List.length_map] at hj
      have ft := someTo_step (ps := ps) (stay := stay) hnm
      have sl := someTo_len ps stay cur j
      refine ⟨rfl, .str nm, rfl, .ref st, rfl, st, _, rfl, .inr (st1.same s2).sq, rfl, flat_strs _, _, rfl, ?_⟩
      rw [inV_strs]
      refine ite2 (fun c => ?_) (fun c => ?_)
      · have c' : (!decide (nm ∈ stay)) = true := c
        refine ⟨_, rfl, _, rfl, _, rfl, a, t1, ps, cur, nm, j, rfl, a1.same s2, ho, irr nm, c1.same s2, gc, ndc, by omega, hnm, fun H4 s4 => ⟨_, rfl, ?_⟩⟩
        rw [c', Bool.true_and] at ft
        refine ite2 (fun c2 => ?_) (fun c2 => ?_)
        · rw [if_pos c2] at ft
          refine ⟨_, rfl, _, s4 _ _ d2, ?_, fun b o e => ?_, ?_⟩
          · rw [List.length_map]
            exact small1000 (by omega)
          · rw [upd_ne (ne_of_none e hD)]
            exact s4 _ _ (s2 _ _ e)
          · rw [upd_same, ft, List.map_append]
            rfl
        · rw [if_neg c2, List.append_nil] at ft
          exact ⟨s2.trans s4, by rw [ft]; exact s4 _ _ d2⟩
      · have c' : ¬ (!decide (nm ∈ stay)) = true := c
        rw [if_neg (by intro z; exact c' ((Bool.and_eq_true _ _ ▸ z).1)), List.append_nil] at ft
        exact ⟨s2, by rw [ft]; exact d2⟩
    rintro H2 ⟨s2, d2⟩
    rw [List.length_map, someTo_all] at d2
    have sl := someL_len ps stay cur
    -- != []
    refine ⟨_, rfl, (by show 0 ≤ sizeLine; decide), fun p3 h3 => ?_⟩
    have s3 := same_upd (o := .lst []) h3
    refine ⟨D, p3, _, rfl, rfl, s3 _ _ d2, upd_same, (fun y hy => gc y (looseL_sub (someL_sub hy).1)), _, rfl, ?_⟩
    have s13 := s2.trans s3
    have o13 : Oth b H (upd H2 p3 (.lst [])) := o1.trans (Oth.of s13)
    have b3 := b1.same s13
    have d3 := s3 _ _ d2
    refine ite2 (fun c => ?_) (fun c => ?_)
    · have ne : someL ps stay cur ≠ [] := fun z => by rw [decide_eq_true z] at c; cases c
      have lp : 0 < (someL ps stay cur).length := List.length_pos_iff.mpr ne
      refine ⟨fun v H4 => ∃ nm, v = .str nm ∧ nm ∈ someL ps stay cur ∧ Oth b (upd H2 p3 (.lst [])) H4 ∧ IsBox H4 b ∧ (bx = .non → (someL ps stay cur).getLast? = some nm), ?_, ?_⟩
      · rcases hbx with rfl | rfl
        · refine ⟨_, rfl, _, rfl, ?_⟩
          obtain ⟨nm, hnm⟩ : ∃ nm, (someL ps stay cur).getLast? = some nm := by
            cases e : (someL ps stay cur).getLast? with
            | some nm => exact ⟨nm, rfl⟩
            | none => exact absurd (List.getLast?_eq_none_iff.mp e) ne
          obtain ⟨ys, hys⟩ := List.getLast?_eq_some_iff.mp hnm
          refine ⟨.ref D, rfl, 1, rfl, D, _, -1, .str nm, rfl, rfl, .inl (.inl d3), ?_, nm, rfl, last_mem hnm, Oth.refl _ _, b3, fun _ => hnm⟩
          rw [hys, List.map_append]
          exact atI_last _ _
        · refine ⟨_, rfl, _, rfl, ?_⟩
          refine ⟨.ref D, rfl, .ref b, rfl, .ref D, rfl, D, _, rfl, .inl (.inl (.inl d3)), b, _, rfl, b3, (by rw [List.length_map]; omega), (by rw [List.length_map]; omega), fun u H4 o4 b4 u0 u1 => ?_⟩
          rw [List.length_map] at u1
          obtain ⟨nm, hnm⟩ : ∃ y, (someL ps stay cur)[u.toNat]? = some y := ⟨(someL ps stay cur)[u.toNat]'(by omega), List.getElem?_eq_getElem _⟩
          refine ⟨D, _, u, .str nm, rfl, rfl, .inl (.inl (o4 _ _ (b3.ne_strs d3) d3)), at_of (by omega) (ix_map hnm), nm, rfl, List.mem_of_getElem? hnm, o4, b4, fun z => nomatch z⟩
      rintro v H4 ⟨nm, rfl, mnm, o4, b4, lnm⟩
      obtain ⟨ml, ms⟩ := someL_sub mnm
      have lx := (looseL_iff irr ndc).mp ml
      have rl := rem_len ndc lx.mem
      have o14 : Oth b H1 H4 := (Oth.of s13).trans o4
      have g4 := o14 _ _ ngb g1
      refine ⟨.ref g, rfl, .inl ⟨rfl, _, .inl (.inl g4)⟩, _, rfl, g, _, _, rfl, rfl, g4, ?_, ?_⟩
      · rw [List.length_map]
        exact small1000 (by omega)
      have c4 := c1.oth o14 b1
      have c5 : TupAt (upd H4 g (.lst (acc.map V.str ++ [.str nm]))) t1 (cur.map V.str) := c4.upd_ g4
      refine ⟨_, rfl, _, rfl, t1, cur, nm, rfl, c5, by omega, fun t6 H6 s6 e6 => ?_⟩
      have o46 : Oth b H (upd H4 g (.lst (acc.map V.str ++ [.str nm]))) := fun c o nc e => by
        rw [upd_ne (ne_of_none e hg)]
        exact o14 _ _ nc (o1 _ _ nc e)
      have b5 : IsBox (upd H4 g (.lst (acc.map V.str ++ [.str nm]))) b := by
        obtain ⟨i1, i2, i3, e⟩ := b4
        exact ⟨i1, i2, i3, (upd_ne (Ne.symm ngb)).trans e⟩
      refine ⟨t6, rem cur nm, acc ++ [nm], _, _, _, rfl, o46.trans (Oth.of s6), b5.same s6, ((a1.oth o14 b1).upd_ g4).same s6, e6, ((st1.oth o14 b1).upd_ g4).same s6, ?_, r1.snoc lx ms, ?_, ?_, fun z => ?_⟩
      · rw [List.map_append]
        exact s6 _ _ upd_same
      · rw [List.length_append]
        show acc.length + 1 ≤ _
        omega
      · rcases d1 with d1 | d1
        · exact .inl (by omega)
        · exact absurd d1 ne
      · obtain ⟨w2, w3⟩ := w1 z
        obtain ⟨z1, z2⟩ := gone_some ndc (lnm z)
        refine ⟨?_, by rw [← z2]; exact w3⟩
        rw [List.append_assoc]
        show acc ++ (nm :: goneO ps stay (rem cur nm)) = _
        rw [← z1]
        exact w2
    · have en : someL ps stay cur = [] := Classical.byContradiction fun z => c (by rw [decide_eq_false z]; rfl)
      exact ⟨t1, cur, acc, _, _, _, rfl, o13, b3, a1.same s13, c1.same s13, st1.same s13, s13 _ _ g1, r1, by omega, .inr en, w1⟩
  · rintro σ H1 ⟨t1, cur, acc, y5, y6, y7, rfl, o1, b1, a1, c1, st1, g1, r1, m1, d1, w1⟩
    have en : someL ps stay cur = [] := by
      rcases d1 with d1 | d1
      · have : cur = [] := List.length_eq_zero_iff.mp (by omega)
        rw [this]
        rfl
      · exact d1
    have ndc := r1.nodup nds
    have eu := gone_uniq irr nds r1 (nf_some irr ndc en)
    refine ⟨.ref g, rfl, .ref t1, rfl, (by show 2 ≤ sizeLine; decide), fun T hT => ?_⟩
    have s2 := same_upd (o := .tup [.ref g, .ref t1]) hT
    refine q T g t1 acc _ (o1.trans (Oth.of s2)) (b1.same s2) hg upd_same (s2 _ _ g1) ?_ fun z => ?_
    · rw [← eu]
      exact c1.same s2
    · obtain ⟨w2, _⟩ := w1 z
      rw [(gone_none en).1, List.append_nil] at w2
      exact w2
/-! ### _law_right -/
abbrev sRight : Stmt := topS 26
abbrev nRight : List Str := ["_law_box_here", "_law_pool", "_law_pals_here", "_law_turn", "_law_stand", "_law_stay", "_law_out", "_law_left", "_law_found", "_law_again", "_law_fine", "_law_told"]
theorem scRight : FnScope nRight ["_law_box_here"] (defScope sRight) := ⟨rfl, rfl, rfl, by decide +kernel, rfl, by decide +kernel, by decide +kernel⟩
theorem ok_right {f EG EL : Addr} {fd : FuncData} (B : Blt mg) (CT : Cal P w K mg base 1 "_law_take" ["_law_box_here", "_law_many"] spTake) (CN : Cal P w K mg base 2 "_law_names" ["_law_box_here", "_law_many"] spNames) (CP : Cal P w K mg base 2 "_law_pals" ["_law_box_here", "_law_pool"] spPals)
    (CY : Cal P w K mg base 5 "_law_any_stand" ["_law_box_here", "_law_pals_here", "_law_pool"] spAny) (CF : Cal P w K mg base 4 "_law_fine_stand" ["_law_box_here", "_law_pals_here", "_law_pool"] spFine) (CW : Cal P w K mg base 2 "_law_strewn" ["_law_box_here", "_law_some"] spStrewn)
    (CG : Cal P w K mg base 4 "_law_gone" ["_law_box_here", "_law_pals_here", "_law_stand", "_law_stay"] spLGone) (GO : Cal3 P w K mg base 6 "goers" (spGoers K) EG) (LO : Cal3 P w K mg base 6 "left_over" (spLeft K) EL)
    (CS : Cal P w K mg base 3 "_law_same" ["_law_found", "_law_due"] (spSame 3)) (F : Fun K "_law_right" "_law_right" sRight f fd) : FnOk P w K mg base CX0 7 f fd ["_law_box_here"] spRight := by
  refine fok F scRight (fun vs H Q E h => ?_) (fun cdv A outer s H vs Q E hr h => ?_)
  · obtain ⟨b, rfl, _⟩ := h
    rfl
  obtain ⟨b, rfl, hb, q⟩ := h
  have h1 : Room 1 _ := hr.mono (by decide)
  have h2 : Room 2 _ := hr.mono (by decide)
  have h3 : Room 3 _ := hr.mono (by decide)
  have h4 : Room 4 _ := hr.mono (by decide)
  refine ⟨_, pss_cons (ps_set (i := 1) scRight.nd rfl (.inl rfl) (pe_cal CN h2 (pa_cons (pv 0) (pa_cons (pe_op op_add pe_int (pe_cal CT h1 (pa_cons (pv 0) (pa_cons pe_int pa_nil)))) pa_nil))))
    (pss_cons (ps_set (i := 2) scRight.nd rfl (.inl rfl) (pe_cal CP h2 (pa_cons (pv 0) (pa_cons (pv 1) pa_nil))))
    (pss_cons (ps_for PassesOwn.never rfl (pi_range1 (by rfl) B.range (pa_cons pe_int pa_nil)) (pg_name (i := 3) scRight.nd rfl (.inl rfl))
      (pss_cons (ps_set (i := 4) scRight.nd rfl (.inl rfl) (pe_cal CY hr (pa_cons (pv 0) (pa_cons (pv 2) (pa_cons (pv 1) pa_nil)))))
      (pss_cons (ps_set (i := 5) scRight.nd rfl (.inl rfl) (pe_mid (pe_ifExp (pt_cmpR op_eq (pe_cal CT h1 (pa_cons (pv 0) (pa_cons pe_int pa_nil))) pe_int (nomark _)) (pe_callTy call_tupleF (by rfl) B.tuple (by decide +kernel) (pa_cons (pe_slice sl_list (pe_cal CW h2 (pa_cons (pv 0) (pa_cons (pv 1) pa_nil))) po_none (po_some (pe_cal CT h1 (pa_cons (pv 0) (pa_cons pe_int pa_nil))))) pa_nil)) (pe_tupF pa_nil))))
      (pss_cons (ps_set (i := 5) scRight.nd rfl (.inl rfl) (pe_op op_catM (pv 5) (pe_op op_mul01 (pe_tupF (pa_cons pe_str pa_nil)) (pe_cal CT h1 (pa_cons (pv 0) (pa_cons pe_int pa_nil))))))
      (pss_cons (ps_asg (pe_cal CG h4 (pa_cons pe_non (pa_cons (pv 2) (pa_cons (pv 4) (pa_cons (pv 5) pa_nil))))) (pg_tup rfl (pgs_cons (pg_name (i := 6) scRight.nd rfl (.inl rfl)) (pgs_cons (pg_name (i := 7) scRight.nd rfl (.inl rfl)) pgs_nil))))
      (pss_cons (ps_set (i := 8) scRight.nd rfl (.inl rfl) (pe_cal3k GO hr (pa_cons (pv 2) (pa_cons (pv 4) pa_nil)) (pk_cons (pv 5) pk_nil)))
      (pss_cons (ps_if (pt_not (pt_val (pe_cal CS h3 (pa_cons (pe_lst (pa_cons (pv 8) (pa_cons (pe_cal3k LO hr (pa_cons (pv 2) (pa_cons (pv 4) pa_nil)) (pk_cons (pe_callTy call_list_of (by rfl) B.list (by decide +kernel) (pa_cons (pv 5) pa_nil)) pk_nil)) pa_nil))) (pa_cons (pe_lst (pa_cons (pv 6) (pa_cons (pv 7) pa_nil))) pa_nil))))) (pss_one (ps_ret pe_bl)) pss_nil)
      (pss_cons (ps_expr (pe_bm PySem.F.plainAttrs_list PySem.F.slot_list_append PySem.F.type_list_append mt_append (pv 8) (pa_cons pe_str pa_nil)))
      (pss_cons (ps_if (pt_not (pt_val (pe_cal CS h3 (pa_cons (pe_cal3r GO hr (pk_cons (pv 5) (pk_cons (pe_callTy call_list_of (by rfl) B.list (by decide +kernel) (pa_cons (pv 4) pa_nil)) (pk_cons (pe_callTy call_list_of (by rfl) B.list (by decide +kernel) (pa_cons (pv 2) pa_nil)) pk_nil)))) (pa_cons (pv 6) pa_nil))))) (pss_one (ps_ret pe_bl)) pss_nil)
      (pss_cons (ps_for PassesOwn.never rfl (pi_range1 (by rfl) B.range (pa_cons pe_int pa_nil)) (pg_name (i := 9) scRight.nd rfl (.inl rfl))
        (pss_one (ps_if (pt_cmpR (op_neT hr.units) (pe_ix ix_tup (pe_cal CG h4 (pa_cons (pv 0) (pa_cons (pv 2) (pa_cons (pv 4) (pa_cons (pv 5) pa_nil))))) pe_int (fun _ _ => rfl)) (pv 7) (nomark _)) (pss_one (ps_ret pe_bl)) pss_nil)))
      (pss_one (ps_if (pt_not (pt_val (pe_cal CS h3 (pa_cons (pe_cal3 LO hr (pa_cons (pv 2) (pa_cons (pv 4) pa_nil))) (pa_cons (pe_ix ix_tup (pe_cal CG h4 (pa_cons (pv 0) (pa_cons (pv 2) (pa_cons (pv 4) (pa_cons (pe_tupF pa_nil) pa_nil))))) pe_int (fun _ _ => rfl)) pa_nil))))) (pss_one (ps_ret pe_bl)) pss_nil))))))))))))
    (pss_cons (ps_set (i := 10) scRight.nd rfl (.inl rfl) (pe_cal CF h4 (pa_cons (pv 0) (pa_cons (pv 2) (pa_cons (pv 1) pa_nil)))))
    (pss_cons (ps_set (i := 11) scRight.nd rfl (.inl rfl) (pe_lst (pa_cons (pe_cal3d LO hr (pk_cons (pv 10) (pk_cons (pv 2) pk_nil))) (pa_cons (pe_cal3 GO hr (pa_cons (pv 2) (pa_cons (pe_tupF pa_nil) pa_nil))) pa_nil))))
    (pss_one (ps_ret (pe_and (pe_cal CS h3 (pa_cons (pv 11) (pa_cons (pe_lst (pa_cons (pe_tupF pa_nil) (pa_cons (pe_lst pa_nil) pa_nil))) pa_nil))) (pe_one (pe_cmpR op_eq (pe_callB call_len_seq (by rfl) B.len PySem.boot_len (pa_cons (pe_cal3 GO hr (pa_cons (pv 2) (pa_cons (pv 10) pa_nil))) pa_nil)) (pe_callB call_len_seq (by rfl) B.len PySem.boot_len (pa_cons (pv 1) pa_nil)) (nomark _)))))))))), ?_⟩
  -- pool, pals
  refine ⟨_, rfl, .ref b, rfl, b, 14, rfl, hb, by decide, by decide, fun v H1 o1 b1 v0 v1 => ⟨_, _, rfl, rfl, ?_⟩⟩
  refine ⟨b, (1 + v).toNat, ?_, b1, by omega, fun l pool H2 o2 b2 nl e2 n2 nd2 ok2 => ?_⟩
  · rw [Int.toNat_of_nonneg (by omega)]
    rfl
  have gp : Goods pool := fun x hx => (ok2 x hx).good
  refine ⟨_, rfl, _, rfl, b, l, pool, rfl, b2, e2, nd2, by omega, fun a bs H3 o3 b3 na e3 p3 g3 c3 _ => ?_⟩
  have hpa : PalsAt H3 a (bs.map (·.2)) := ⟨bs, e3, p3, rfl⟩
  have hpo : PalsOk (bs.map (·.2)) := g3.ok gp
  have irr : Irr (bs.map (·.2)) := g3.irr
  have hpl : (bs.map (·.2)).length ≤ 1000 := by rw [List.length_map]; exact c3
  generalize bs.map (·.2) = ps at hpa hpo hpl irr
  have l3 : H3 l = some (.lst (pool.map V.str)) := o3 _ _ (b2.ne_strs e2) e2
  -- the turns
  refine ⟨2, rfl, by decide, by decide, ?_⟩
  refine for_it (walk_range (lo := 0) (n := (2 : Int).toNat)) (fun i σ H' => ∃ (y3 y4 y5 y6 y7 y8 y9 y10 y11 : Option V), σ = [some (.ref b), some (.ref l), some (.ref a), y3, y4, y5, y6, y7, y8, y9, y10, y11] ∧ Oth b H H' ∧ IsBox H' b ∧ PalsAt H' a ps ∧ H' l = some (.lst (pool.map V.str))) ?_ (fun _ _ _ _ _ => trivial) ?_ ?_
  · exact ⟨_, _, _, _, _, _, _, _, _, rfl, (o1.trans o2).trans o3, b3, hpa, l3⟩
  · rintro i x σ H5 H4 hi ⟨y3, y4, y5, y6, y7, y8, y9, y10, y11, rfl, o4, b4, a4, l4⟩ ⟨rfl, rfl⟩
    -- stand
    refine ⟨_, rfl, _, rfl, _, rfl, b, a, l, ps, pool, rfl, b4, a4, hpo, l4, gp, nd2, by omega, fun t stand H6 o6 b6 t6 pm => ?_⟩
    have nds : stand.Nodup := pm.nodup_iff.mpr nd2
    have gst : Goods stand := gp.perm pm
    have sl : stand.length = pool.length := pm.length_eq
    have a6 := a4.oth o6 b4
    have l6 := o6 _ _ (b4.ne_strs l4) l4
    -- stay
    refine ⟨fun v H7 => ∃ (st : Addr) (stay : List Str), v = .ref st ∧ Oth b H6 H7 ∧ IsBox H7 b ∧ TupAt H7 st (stay.map V.str) ∧ stay.length ≤ 100, ?_, ?_⟩
    · refine ⟨.ref b, rfl, b, 2, rfl, b6, by decide, by decide, fun u H7 o7 b7 u0 u1 => ⟨rfl, _, rfl, ite2 (fun _ => ?_) (fun _ => ?_)⟩⟩
      · have l7 := o7 _ _ (b6.ne_strs l6) l6
        refine ⟨_, rfl, _, rfl, b, l, pool, rfl, b7, .inr l7, by omega, fun lo order H8 o8 b8 n8 e8 pm8 => ?_⟩
        refine ⟨.ref b, rfl, b, 4, rfl, b8, by decide, by decide, fun u' H9 o9 b9 w0 w1 => ?_⟩
        have e9 := o9 _ _ (b8.ne_strs e8) e8
        obtain ⟨n, rfl⟩ : ∃ n : Nat, u' = (n : Int) := ⟨u'.toNat, (Int.toNat_of_nonneg w0).symm⟩
        refine ⟨_, rfl, lo, _, rfl, .inl (.inl e9), fun p hp => ?_⟩
        rw [cutV_map, cutL_to]
        have s10 := same_upd (o := .lst ((order.take n).map V.str)) hp
        refine ⟨p, _, rfl, .inl ⟨.inl (.inl upd_same), fun st H11 s11 n11 t11 => ?_⟩⟩
        refine ⟨st, order.take n, rfl, (((o7.trans o8).trans o9).trans (Oth.of s10)).trans (Oth.of s11), (b9.same s10).same s11, t11, ?_⟩
        rw [List.length_take, pm8.length_eq]
        omega
      · exact ⟨(by show 0 ≤ sizeLine; decide), fun p8 H8 s8 n8 t8 => ⟨p8, [], rfl, o7.trans (Oth.of s8), b7.same s8, t8, Nat.zero_le _⟩⟩
    rintro v H7 ⟨st0, stay0, rfl, o7, b7, t7, ln7⟩
    refine ⟨.ref st0, rfl, (by show 1 ≤ sizeLine; decide), fun pz Hz sz nz tz => ?_⟩
    refine ⟨.ref b, rfl, b, 2, rfl, b7.same sz, by decide, by decide, fun u H8 o8 b8 u0 u1 => ?_⟩
    refine ⟨pz, u, _, rfl, rfl, tz.oth o8 (b7.same sz), (fun z => nomatch z), u0, by omega, fun tm H9 s9 e9 => ?_⟩
    refine ⟨st0, tm, _, _, rfl, rfl, ((t7.same sz).oth o8 (b7.same sz)).same s9, e9, ?_, fun st H10 s10 e10 => ?_⟩
    · rw [List.length_map]
      refine small_le ?_
      split
      · show _ + 0 ≤ 1000
        omega
      · show _ + 1 ≤ 1000
        omega
    have est : ∃ stay : List Str, stay0.map V.str ++ (if u = 0 then [] else [V.str "zzzzzzzz"]) = stay.map V.str := ⟨stay0 ++ (if u = 0 then ([] : List Str) else (["zzzzzzzz"] : List Str)), by rw [List.map_append]; split <;> rfl⟩
    obtain ⟨stay, est⟩ := est
    have e10' : TupAt H10 st (stay.map V.str) := by rw [← est]; exact e10
    clear e10
    have o610 : Oth b H6 H10 := (((o7.trans (Oth.of sz)).trans o8).trans (Oth.of s9)).trans (Oth.of s10)
    have b10 := (b8.same s9).same s10
    have a10 := a6.oth o610 b6
    have l10 := o610 _ _ (b6.ne_strs l6) l6
    have t10 := t6.oth o610 b6
    have o10 : Oth b H H10 := (o4.trans o6).trans o610
    clear e9 t7 tz o7 o8 s9 s10 sz b7 b8 u0 u1 est
    obtain ⟨gr1, gr2, gr3⟩ := gone_red (stay := stay) irr stand.length stand rfl nds
    have gl := gr1.len
    have gg : Goods (goneR ps stay stand) := fun y hy => gst y (gr1.sub y hy)
    -- out, left
    refine ⟨_, rfl, _, rfl, _, rfl, b, a, t, st, .non, ps, stand, stay, rfl, b10, .inl rfl, a10, hpo, irr, t10, gst, nds, by omega, e10', fun T g tl out H11 o11 b11 ng eT eg et hout => ?_⟩
    have hout' := hout rfl
    subst hout'
    refine ⟨T, _, rfl, .inl (.inl eT), rfl, _, _, rfl, _, _, rfl, rfl, ?_⟩
    have a11 := a10.oth o11 b10
    have t11 := t10.oth o11 b10
    have st11 := e10'.oth o11 b10
    have l11 := o11 _ _ (b10.ne_strs l10) l10
    have oo11 := o10.trans o11
    clear hout eT
    -- found
    refine ⟨_, rfl, _, rfl, _, rfl, rfl, rfl, a, t, st, ps, stand, stay, rfl, a11.fr, hpl, .inl t11, nds, by omega, (fun H' s => .inr (st11.same s).sq), fun fo H12 s12 nfo efo => ?_⟩
    refine ⟨_, rfl, _, rfl, _, rfl, .ref st, rfl, st, _, rfl, .inr (st11.same s12).sq, fun p1 h1' => ?_⟩
    have s13 := same_upd (o := .lst (stay.map V.str)) h1'
    have s1113 := s12.trans s13
    refine ⟨rfl, rfl, a, t, p1, ps, stand, stay, rfl, (a11.same s1113).fr, hpl, .inl (t11.same s1113), nds, by omega, (fun H' s => .inl (.inl (.inl (s _ _ upd_same)))), fun t2 H14 s14 e14 => ?_⟩
    refine ⟨(by show 2 ≤ sizeLine; decide), fun p3 h3' => ?_⟩
    have s15 := same_upd (o := .lst [.ref fo, .ref t2]) h3'
    refine ⟨_, rfl, _, rfl, (by show 2 ≤ sizeLine; decide), fun p4 h4' => ?_⟩
    have s16 := same_upd (o := .lst [.ref g, .ref tl]) h4'
    have s1416 := s15.trans s16
    have s1216 := (s13.trans s14).trans s1416
    have s1116 := s12.trans s1216
    have f16 := s1216 _ _ efo
    have g16 := s1116 _ _ eg
    refine ⟨.ref p3, .ref p4, rfl, alk_list2 (s16 _ _ upd_same) upd_same (alk_strsL f16 g16 (by omega)) (alk_strsT (.inr (e14.same s1416)) (.inr (et.same s1116)) (by omega)), fun H17 s17 => ⟨true, rfl, ?_⟩⟩
    -- its own list
    have f17 := s17 _ _ f16
    have s1117 := s1116.trans s17
    refine ⟨.ref fo, rfl, .inl ⟨rfl, _, .inl (.inl f17)⟩, fo, _, _, rfl, rfl, f17, ?_, ?_⟩
    · rw [List.length_map]
      exact small1000 (by omega)
    have s18 : Same H11 (upd H17 fo (.lst ((goneO ps stay stand).map V.str ++ [.str "a"]))) := fun c o e => by
      rw [upd_ne (ne_of_none e nfo)]
      exact s1117 _ _ e
    have t18 := t11.same s18
    have a18 := a11.same s18
    have st18 := st11.same s18
    refine ⟨_, rfl, .ref t, rfl, t, _, rfl, .inr t18.sq, fun p5 h5 => ?_⟩
    have s19 := same_upd (o := .lst (stand.map V.str)) h5
    obtain ⟨bs', c1, c2, c3'⟩ := a18.same s19
    refine ⟨.ref a, rfl, a, _, rfl, .inr (.inl (.inl c1)), fun p6 h6 => ?_⟩
    have s20 := same_upd (o := .lst (refs bs')) h6
    have s1820 := s19.trans s20
    refine ⟨p6, p5, st, ps, stand, stay, rfl, ⟨bs', .inr upd_same, c2.same s20, c3'⟩, hpl, .inr (s20 _ _ upd_same), nds, by omega, (fun H' s => .inr ((st18.same s1820).same s).sq), fun f2 H21 s21 n21 e21 => ?_⟩
    have s1121 := (s18.trans s1820).trans s21
    refine ⟨_, rfl, .ref f2, .ref g, rfl, alk_strsL e21 (s1121 _ _ eg) (by omega), fun H22 s22 => ⟨true, rfl, ?_⟩⟩
    have s1122 := s1121.trans s22
    have a22 := a11.same s1122
    have t22 := t11.same s1122
    have st22 := st11.same s1122
    have tl22 := et.same s1122
    have b22 := b11.same s1122
    have l22 := s1122 _ _ l11
    have oo22 := oo11.trans (Oth.of s1122)
    -- again
    refine ⟨3, rfl, by decide, by decide, ?_⟩
    refine for_it (walk_range (lo := 0) (n := (3 : Int).toNat)) (fun k σ H' => ∃ (y9 : Option V), σ = [some (.ref b), some (.ref l), some (.ref a), some (.int (0 + (i : Int))), some (.ref t), some (.ref st), some (.ref g), some (.ref tl), some (.ref fo), y9, y10, y11] ∧ Oth b H22 H' ∧ IsBox H' b) ?_ (fun _ _ _ _ _ => trivial) ?_ ?_
    · exact ⟨_, rfl, Oth.refl _ _, b22⟩
    · rintro k x σ H24 H23 hk ⟨y9', rfl, o23, b23⟩ ⟨rfl, rfl⟩
      have tl23 := tl22.oth o23 b22
      refine ⟨_, rfl, _, rfl, _, rfl, _, rfl, b, a, t, st, .ref b, ps, stand, stay, rfl, b23, .inr rfl, a22.oth o23 b22, hpo, irr, t22.oth o23 b22, gst, nds, by omega, st22.oth o23 b22, fun T2 g2 t2' out2 H25 o25 b25 _ eT2 _ et2 _ => ?_⟩
      refine ⟨T2, _, 1, _, rfl, rfl, .inl (.inl eT2), atI_nat (j := 1) rfl, _, rfl, t2', tl, _, _, rfl, rfl, et2, tl23.oth o25 b23, gg, gg, _, rfl, ?_⟩
      rw [decide_eq_true rfl]
      exact ⟨_, rfl, o23.trans o25, b25⟩
    rintro σ H23 ⟨y9', rfl, o23, b23⟩
    have a23 := a22.oth o23 b22
    have t23 := t22.oth o23 b22
    have l23 := o23 _ _ (b22.ne_strs l22) l22
    obtain ⟨hr1, hr2, hr3⟩ := gone_red (stay := []) irr stand.length stand rfl nds
    have hl := hr1.len
    refine ⟨_, rfl, _, rfl, a, t, EL, ps, stand, [], rfl, a23.fr, hpl, .inl t23, nds, by omega, (fun H' _ => LO.but H'), fun t3 H24 s24 e24 => ?_⟩
    have b24 := b23.same s24
    refine ⟨_, rfl, _, rfl, _, rfl, (by show 0 ≤ sizeLine; decide), fun p7 H25 s25 n25 e25 => ?_⟩
    have s2325 := s24.trans s25
    have b25 := b24.same s25
    refine ⟨b, a, t, p7, .ref b, ps, stand, [], rfl, b25, .inr rfl, a23.same s2325, hpo, irr, t23.same s2325, gst, nds, by omega, e25, fun T2 g2 t4 out2 H26 o26 b26 _ eT2 _ et2 _ => ?_⟩
    refine ⟨T2, _, 1, _, rfl, rfl, .inl (.inl eT2), atI_nat (j := 1) rfl, ?_⟩
    refine ⟨.ref t3, .ref t4, rfl, alk_strsT (.inr ((e24.same s25).oth o26 b25)) (.inr et2) (by omega), fun H27 s27 => ⟨true, rfl, ?_⟩⟩
    have oA : Oth b H23 H27 := ((Oth.of s2325).trans o26).trans (Oth.of s27)
    exact ⟨_, _, _, _, _, _, _, _, _, rfl, (oo22.trans o23).trans oA, b26.same s27, a23.oth oA b23, oA _ _ (b23.ne_strs l23) l23⟩
  -- the end
  rintro σ H4 ⟨y3, y4, y5, y6, y7, y8, y9, y10, y11, rfl, o4, b4, a4, l4⟩
  refine ⟨_, rfl, _, rfl, _, rfl, b, a, l, ps, pool, rfl, b4, a4, hpo, l4, gp, by omega, fun tf order H5 o5 b5 t5 pm => ?_⟩
  have a5 := a4.oth o5 b4
  have l5 := o5 _ _ (b4.ne_strs l4) l4
  have ndo : order.Nodup := pm.nodup_iff.mpr nd2
  have fpm := stand_perm ps order
  have red0 : Red ps [] (standOf ps order) [] := stand_red order.length order rfl ndo
  have ndf : (standOf ps order).Nodup := fpm.nodup_iff.mpr ndo
  have lnf : (standOf ps order).length = pool.length := by rw [fpm.length_eq, pm.length_eq]
  generalize standOf ps order = fine at t5 red0 ndf lnf fpm
  have gR : goneR ps [] fine = [] := (gone_uniq irr ndf red0 (nf_nil ps)).symm
  have gO : (goneO ps [] fine).length = pool.length := by
    have := gone_len (ps := ps) (stay := []) fine.length fine rfl ndf
    rw [gR] at this
    have : (goneO ps [] fine).length + 0 = fine.length := this
    omega
  refine ⟨_, rfl, _, rfl, rfl, rfl, a, tf, EL, ps, fine, [], rfl, a5.fr, hpl, .inl t5, ndf, by omega, (fun H' _ => LO.but H'), fun t6 H6 s6 e6 => ?_⟩
  rw [gR] at e6
  refine ⟨_, rfl, (by show 0 ≤ sizeLine; decide), fun p7 H7 s7 n7 e7 => ?_⟩
  have s57 := s6.trans s7
  refine ⟨a, p7, EG, ps, [], [], rfl, (a5.same s57).fr, hpl, .inl e7, List.nodup_nil, by decide, (fun H' _ => GO.but H'), fun g8 H8 s8 n8 e8 => ?_⟩
  refine ⟨(by show 2 ≤ sizeLine; decide), fun p9 h9 => ?_⟩
  have s9 := same_upd (o := .lst [.ref t6, .ref g8]) h9
  refine ⟨_, rfl, (by show 0 ≤ sizeLine; decide), fun p10 H10 s10 n10 e10 => ⟨(by show 0 ≤ sizeLine; decide), fun p11 h11 => ?_⟩⟩
  have s11 := same_upd (o := .lst []) h11
  refine ⟨(by show 2 ≤ sizeLine; decide), fun p12 h12 => ?_⟩
  have s12 := same_upd (o := .lst [.ref p10, .ref p11]) h12
  have s912 := (s10.trans s11).trans s12
  have s812 := s9.trans s912
  have s612 := (s7.trans s8).trans s812
  refine ⟨.ref p9, .ref p12, rfl, alk_list2 (s912 _ _ upd_same) upd_same (alk_strsT (xs := []) (.inr (e6.same s612)) (.inr ((e10.same s11).same s12)) (by decide)) (alk_strsL (xs := []) (s812 _ _ e8) (s12 _ _ upd_same) (by decide)), fun H13 s13 => ⟨true, rfl, ?_⟩⟩
  have s513 := (s6.trans s612).trans s13
  refine ⟨_, rfl, _, rfl, a, tf, EG, ps, fine, [], rfl, (a5.same s513).fr, hpl, .inl (t5.same s513), ndf, by omega, (fun H' _ => GO.but H'), fun g14 H14 s14 n14 e14 => ?_⟩
  refine ⟨g14, _, rfl, .inl (.inl (.inl e14)), .ref l, rfl, l, _, rfl, .inl (.inl (.inl ((s513.trans s14) _ _ l5))), rfl, ?_⟩
  rw [List.length_map, List.length_map, gO]
  show Q (.bl (decide (V.int ((pool.length : Nat) : Int) = V.int ((pool.length : Nat) : Int)))) H14
  rw [decide_eq_true rfl]
  exact q H14 ((o4.trans o5).trans (Oth.of (s513.trans s14)))
/-! ### law -/
abbrev sLaw : Stmt := topS 27
abbrev nLaw : List Str := ["_law_script", "_law_cells_here", "_law_k"]
theorem scLaw : FnScope nLaw ["_law_script"] (defScope sLaw) := ⟨rfl, rfl, rfl, by decide +kernel, rfl, by decide +kernel, by decide +kernel⟩
theorem ok_law {f : Addr} {fd : FuncData} {n : Nat} (B : Blt mg) (CC : Cal P w K mg base 1 "_law_cells" ["_law_script", "_law_utmost"] (spCells K)) (CX : Cal P w K mg base 1 "_law_box" ["_law_cells_here", "_law_k"] spBox) (CR : Cal P w K mg base (n + 1) "_law_right" ["_law_box_here"] spRight) (F : Fun K "law" "law" sLaw f fd) : FnOk P w K mg base CX0 (n + 2) f fd ["_law_script"] (spLaw K) := by
  refine fok F scLaw (fun vs H Q E h => ?_) (fun cdv A outer s H vs Q E hr h => ?_)
  · obtain ⟨a, ns, rfl, _⟩ := h
    rfl
  obtain ⟨a, ns, rfl, ha, hn, q⟩ := h
  have h1 : Room 1 _ := hr.mono (by omega)
  refine ⟨_, pss_cons (ps_set (i := 1) scLaw.nd rfl (.inr rfl) (pe_cal CC h1 (pa_cons (pv 0) (pa_cons pe_int pa_nil))))
    (pss_one (ps_ret (pe_callB (cr_all rfl) (by rfl) B.all (by decide +kernel) (pa_cons (pe_lc (own := [("_law_k", 2)]) (g := gName 2) (tt := tYes) rfl scLaw.nd (pi_range1 (by rfl) B.range (pa_cons (pe_callB call_len_seq (by rfl) B.len PySem.boot_len (pa_cons (pv 1) pa_nil)) pa_nil)) (blkOk_by (N := nLaw) (sc := defScope sLaw) (by decide +kernel))
      (fun _ _ _ _ _ => pg_name (i := 2) scLaw.nd rfl (Or.inl rfl)) (fun _ _ _ _ _ => pts_nil) (fun _ _ _ _ _ => pe_cal CR hr (pa_cons (pe_cal CX h1 (pa_cons (pv 1) (pa_cons (pv 2) pa_nil))) pa_nil))) pa_nil)))), ?_⟩
  refine ⟨.ref a, rfl, a, ns, _, rfl, ha, hn, by decide, by decide, fun c ms H1 s1 nc e1 m0 m3 => ?_⟩
  refine ⟨.ref c, rfl, c, _, rfl, .inl (.inl (.inl e1)), _, rfl, ?_, ?_, fun D hD => ?_⟩
  · rw [List.length_map]
    omega
  · rw [List.length_map]
    omega
  rw [List.length_map]
  have ncD : c ≠ D := ne_of_none e1 hD
  refine lc_it (walk_range (lo := 0) (n := ((ms.length : Int)).toNat)) (fun i H' => H' c = some (.lst (ms.map V.int)) ∧ H' D = some (.lst ((List.replicate i true).map V.bl))) ?_ (fun _ _ _ _ => trivial) ?_ ?_
  · exact ⟨(upd_ne ncD).trans e1, upd_same⟩
  · rintro i x H3 H2 hi ⟨e2, d2⟩ ⟨rfl, rfl⟩
    have ei : (0 : Int) + (i : Int) = (i : Int) := Int.zero_add _
    refine ⟨rfl, ⟨.ref c, rfl, _, rfl, c, ms, i, congrArg (fun z => [V.ref c, V.int z]) ei, e2, by omega, by omega, fun b H4 s4 nb b4 => ?_⟩⟩
    have c4 := s4 _ _ e2
    have d4 := s4 _ _ d2
    have ncb : c ≠ b := ne_of_none e2 nb
    have nDb : D ≠ b := ne_of_none d2 nb
    refine ⟨b, rfl, b4, fun H5 o5 => ?_⟩
    have c5 := o5 _ _ ncb c4
    have d5 := o5 _ _ nDb d4
    refine ⟨_, d5, ?_, (upd_ne ncD).trans c5, ?_⟩
    · rw [List.length_map, List.length_replicate]
      exact small1000 (by omega)
    · rw [upd_same, List.replicate_succ', List.map_append]
      rfl
  · rintro H2 ⟨e2, d2⟩
    refine ⟨D, _, rfl, .inl (.inl d2), ?_⟩
    rw [show (List.replicate ((ms.length : Int)).toNat true).all id = true by simp]
    exact q _
end
/-! ### what the top has written; the law's own head -/
theorem all_mk {l : PySem.W.OpenLaw} {w : World} {K : PySem.W.Frag} {h : Heap} {mg : Str → Option Value} {fa f1 f2 f3 f4 f5 f6 f7 f8 f9 f10 f11 f12 f13 f14 f15 f16 f17 f18 f19 f20 f21 f22 f23 f24 f25 : Addr} (XK : K.In h) (G : h.Ns mainGlobals mg) (hfa : mg "law" = some (.ref fa))
    {od1 an1 od2 an2 od3 an3 od4 an4 od5 an5 od6 an6 od7 an7 od8 an8 od9 an9 od10 an10 od11 an11 od12 an12 od13 an13 od14 an14 od15 an15 od16 an16 od17 an17 od18 an18 od19 an19 od20 an20 od21 an21 od22 an22 od23 an23 od24 an24 od25 an25 : Option Addr} {sl1 sl2 sl3 sl4 sl5 sl6 sl7 sl8 sl9 sl10 sl11 sl12 sl13 sl14 sl15 sl16 sl17 sl18 sl19 sl20 sl21 sl22 sl23 sl24 sl25 : Array (Option Value)} {oc1 kV1 dc1 pm1 cd1 ct1 oc2 kV2 dc2 pm2 cd2 ct2 oc3 kV3 dc3 pm3 cd3 ct3 oc4 kV4 dc4 pm4 cd4 ct4 oc5 kV5 dc5 pm5 cd5 ct5 oc6 kV6 dc6 pm6 cd6 ct6 oc7 dc7 pm7 cd7 ct7 oc8 dc8 pm8 cd8 ct8 oc9 kV9 dc9 pm9 cd9 ct9 oc10 kV10 dc10 pm10 cd10 ct10 oc11 kV11 dc11 pm11 cd11 ct11 oc12 kV12 dc12 pm12 cd12 ct12 oc13 kV13 dc13 pm13 cd13 ct13 oc14 kV14 dc14 pm14 cd14 ct14 oc15 kV15 dc15 pm15 cd15 ct15 oc16 kV16 dc16 pm16 cd16 ct16 oc17 kV17 dc17 pm17 cd17 ct17 oc18 kV18 dc18 pm18 cd18 ct18 oc19 kV19 dc19 pm19 cd19 ct19 oc20 kV20 dc20 pm20 cd20 ct20 oc21 kV21 dc21 pm21 cd21 ct21 oc22 kV22 dc22 pm22 cd22 ct22 oc23 kV23 dc23 pm23 cd23 ct23 oc24 kV24 dc24 pm24 cd24 ct24 oc25 kV25 dc25 pm25 cd25 ct25 : Value}
    (a1 : PySem.W.nsIn K mainGlobals "both_ways" = some (some (.ref f1))) (l1 : K.lookup f1 = some ⟨oc1, od1, .func (PySem.W.fnOf "both_ways" "both_ways" (defArgs sBoth) (defBody sBoth) (defScope sBoth) .none kV1 dc1 pm1 an1 cd1 ct1), sl1⟩) (c1 : PySem.W.codeIn K cd1 "both_ways" = true) (k1 : PySem.W.keepIn K (.ref f1) = true)
    (a2 : PySem.W.nsIn K mainGlobals "last_friend_place" = some (some (.ref f2))) (l2 : K.lookup f2 = some ⟨oc2, od2, .func (PySem.W.fnOf "last_friend_place" "last_friend_place" (defArgs sLfp) (defBody sLfp) (defScope sLfp) .none kV2 dc2 pm2 an2 cd2 ct2), sl2⟩) (c2 : PySem.W.codeIn K cd2 "last_friend_place" = true) (k2 : PySem.W.keepIn K (.ref f2) = true)
    (a3 : PySem.W.nsIn K mainGlobals "loose_at" = some (some (.ref f3))) (l3 : K.lookup f3 = some ⟨oc3, od3, .func (PySem.W.fnOf "loose_at" "loose_at" (defArgs sLooseAt) (defBody sLooseAt) (defScope sLooseAt) .none kV3 dc3 pm3 an3 cd3 ct3), sl3⟩) (c3 : PySem.W.codeIn K cd3 "loose_at" = true) (k3 : PySem.W.keepIn K (.ref f3) = true)
    (a4 : PySem.W.nsIn K mainGlobals "hindmost_loose" = some (some (.ref f4))) (l4 : K.lookup f4 = some ⟨oc4, od4, .func (PySem.W.fnOf "hindmost_loose" "hindmost_loose" (defArgs sHind) (defBody sHind) (defScope sHind) .none kV4 dc4 pm4 an4 cd4 ct4), sl4⟩) (c4 : PySem.W.codeIn K cd4 "hindmost_loose" = true) (k4 : PySem.W.keepIn K (.ref f4) = true)
    (a5 : PySem.W.nsIn K mainGlobals "gone_and_stayed" = some (some (.ref f5))) (l5 : K.lookup f5 = some ⟨oc5, od5, .func (PySem.W.fnOf "gone_and_stayed" "gone_and_stayed" (defArgs sStayed) (defBody sStayed) (defScope sStayed) .none kV5 dc5 pm5 an5 cd5 ct5), sl5⟩) (c5 : PySem.W.codeIn K cd5 "gone_and_stayed" = true) (k5 : PySem.W.keepIn K (.ref f5) = true)
    (a6 : PySem.W.nsIn K mainGlobals "gone_and_left" = some (some (.ref f6))) (l6 : K.lookup f6 = some ⟨oc6, od6, .func (PySem.W.fnOf "gone_and_left" "gone_and_left" (defArgs sGone) (defBody sGone) (defScope sGone) .none kV6 dc6 pm6 an6 cd6 ct6), sl6⟩) (c6 : PySem.W.codeIn K cd6 "gone_and_left" = true) (k6 : PySem.W.keepIn K (.ref f6) = true)
    {kD7 kE7 : Addr} {kd7 : Option Addr} {ks7 : Array (Option Value)} {kn7 : Nat} (a7 : PySem.W.nsIn K mainGlobals "goers" = some (some (.ref f7))) (l7 : K.lookup f7 = some ⟨oc7, od7, .func (PySem.W.fnOf "goers" "goers" (defArgs sGoers) (defBody sGoers) (defScope sGoers) .none (.ref kD7) dc7 pm7 an7 cd7 ct7), sl7⟩) (c7 : PySem.W.codeIn K cd7 "goers" = true) (k7 : PySem.W.keepIn K (.ref f7) = true) (n7 : PySem.W.nsIn K kD7 "but" = some (some (.ref kE7))) (e7 : K.lookup kE7 = some ⟨.type "tuple", kd7, .seq #[] kn7, ks7⟩)
    {kD8 kE8 : Addr} {kd8 : Option Addr} {ks8 : Array (Option Value)} {kn8 : Nat} (a8 : PySem.W.nsIn K mainGlobals "left_over" = some (some (.ref f8))) (l8 : K.lookup f8 = some ⟨oc8, od8, .func (PySem.W.fnOf "left_over" "left_over" (defArgs sLeft) (defBody sLeft) (defScope sLeft) .none (.ref kD8) dc8 pm8 an8 cd8 ct8), sl8⟩) (c8 : PySem.W.codeIn K cd8 "left_over" = true) (k8 : PySem.W.keepIn K (.ref f8) = true) (n8 : PySem.W.nsIn K kD8 "but" = some (some (.ref kE8))) (e8 : K.lookup kE8 = some ⟨.type "tuple", kd8, .seq #[] kn8, ks8⟩)
    (a9 : PySem.W.nsIn K mainGlobals "_law_box" = some (some (.ref f9))) (l9 : K.lookup f9 = some ⟨oc9, od9, .func (PySem.W.fnOf "_law_box" "_law_box" (defArgs sBox) (defBody sBox) (defScope sBox) .none kV9 dc9 pm9 an9 cd9 ct9), sl9⟩) (c9 : PySem.W.codeIn K cd9 "_law_box" = true) (k9 : PySem.W.keepIn K (.ref f9) = true)
    (a10 : PySem.W.nsIn K mainGlobals "_law_take" = some (some (.ref f10))) (l10 : K.lookup f10 = some ⟨oc10, od10, .func (PySem.W.fnOf "_law_take" "_law_take" (defArgs sTake) (defBody sTake) (defScope sTake) .none kV10 dc10 pm10 an10 cd10 ct10), sl10⟩) (c10 : PySem.W.codeIn K cd10 "_law_take" = true) (k10 : PySem.W.keepIn K (.ref f10) = true)
    (a11 : PySem.W.nsIn K mainGlobals "_law_cells" = some (some (.ref f11))) (l11 : K.lookup f11 = some ⟨oc11, od11, .func (PySem.W.fnOf "_law_cells" "_law_cells" (defArgs sCells) (defBody sCells) (defScope sCells) .none kV11 dc11 pm11 an11 cd11 ct11), sl11⟩) (c11 : PySem.W.codeIn K cd11 "_law_cells" = true) (k11 : PySem.W.keepIn K (.ref f11) = true)
    (a12 : PySem.W.nsIn K mainGlobals "_law_names" = some (some (.ref f12))) (l12 : K.lookup f12 = some ⟨oc12, od12, .func (PySem.W.fnOf "_law_names" "_law_names" (defArgs sNames) (defBody sNames) (defScope sNames) .none kV12 dc12 pm12 an12 cd12 ct12), sl12⟩) (c12 : PySem.W.codeIn K cd12 "_law_names" = true) (k12 : PySem.W.keepIn K (.ref f12) = true)
    (a13 : PySem.W.nsIn K mainGlobals "_law_pals" = some (some (.ref f13))) (l13 : K.lookup f13 = some ⟨oc13, od13, .func (PySem.W.fnOf "_law_pals" "_law_pals" (defArgs sPals) (defBody sPals) (defScope sPals) .none kV13 dc13 pm13 an13 cd13 ct13), sl13⟩) (c13 : PySem.W.codeIn K cd13 "_law_pals" = true) (k13 : PySem.W.keepIn K (.ref f13) = true)
    (a14 : PySem.W.nsIn K mainGlobals "_law_are" = some (some (.ref f14))) (l14 : K.lookup f14 = some ⟨oc14, od14, .func (PySem.W.fnOf "_law_are" "_law_are" (defArgs sAre) (defBody sAre) (defScope sAre) .none kV14 dc14 pm14 an14 cd14 ct14), sl14⟩) (c14 : PySem.W.codeIn K cd14 "_law_are" = true) (k14 : PySem.W.keepIn K (.ref f14) = true)
    (a15 : PySem.W.nsIn K mainGlobals "_law_come" = some (some (.ref f15))) (l15 : K.lookup f15 = some ⟨oc15, od15, .func (PySem.W.fnOf "_law_come" "_law_come" (defArgs sCome) (defBody sCome) (defScope sCome) .none kV15 dc15 pm15 an15 cd15 ct15), sl15⟩) (c15 : PySem.W.codeIn K cd15 "_law_come" = true) (k15 : PySem.W.keepIn K (.ref f15) = true)
    (a16 : PySem.W.nsIn K mainGlobals "_law_stand_of" = some (some (.ref f16))) (l16 : K.lookup f16 = some ⟨oc16, od16, .func (PySem.W.fnOf "_law_stand_of" "_law_stand_of" (defArgs sStandOf) (defBody sStandOf) (defScope sStandOf) .none kV16 dc16 pm16 an16 cd16 ct16), sl16⟩) (c16 : PySem.W.codeIn K cd16 "_law_stand_of" = true) (k16 : PySem.W.keepIn K (.ref f16) = true)
    (a17 : PySem.W.nsIn K mainGlobals "_law_strewn" = some (some (.ref f17))) (l17 : K.lookup f17 = some ⟨oc17, od17, .func (PySem.W.fnOf "_law_strewn" "_law_strewn" (defArgs sStrewn) (defBody sStrewn) (defScope sStrewn) .none kV17 dc17 pm17 an17 cd17 ct17), sl17⟩) (c17 : PySem.W.codeIn K cd17 "_law_strewn" = true) (k17 : PySem.W.keepIn K (.ref f17) = true)
    (a18 : PySem.W.nsIn K mainGlobals "_law_loose" = some (some (.ref f18))) (l18 : K.lookup f18 = some ⟨oc18, od18, .func (PySem.W.fnOf "_law_loose" "_law_loose" (defArgs sLoose) (defBody sLoose) (defScope sLoose) .none kV18 dc18 pm18 an18 cd18 ct18), sl18⟩) (c18 : PySem.W.codeIn K cd18 "_law_loose" = true) (k18 : PySem.W.keepIn K (.ref f18) = true)
    (a19 : PySem.W.nsIn K mainGlobals "_law_same" = some (some (.ref f19))) (l19 : K.lookup f19 = some ⟨oc19, od19, .func (PySem.W.fnOf "_law_same" "_law_same" (defArgs sSame) (defBody sSame) (defScope sSame) .none kV19 dc19 pm19 an19 cd19 ct19), sl19⟩) (c19 : PySem.W.codeIn K cd19 "_law_same" = true) (k19 : PySem.W.keepIn K (.ref f19) = true)
    (a20 : PySem.W.nsIn K mainGlobals "_law_thinned" = some (some (.ref f20))) (l20 : K.lookup f20 = some ⟨oc20, od20, .func (PySem.W.fnOf "_law_thinned" "_law_thinned" (defArgs sThinned) (defBody sThinned) (defScope sThinned) .none kV20 dc20 pm20 an20 cd20 ct20), sl20⟩) (c20 : PySem.W.codeIn K cd20 "_law_thinned" = true) (k20 : PySem.W.keepIn K (.ref f20) = true)
    (a21 : PySem.W.nsIn K mainGlobals "_law_fine_stand" = some (some (.ref f21))) (l21 : K.lookup f21 = some ⟨oc21, od21, .func (PySem.W.fnOf "_law_fine_stand" "_law_fine_stand" (defArgs sFine) (defBody sFine) (defScope sFine) .none kV21 dc21 pm21 an21 cd21 ct21), sl21⟩) (c21 : PySem.W.codeIn K cd21 "_law_fine_stand" = true) (k21 : PySem.W.keepIn K (.ref f21) = true)
    (a22 : PySem.W.nsIn K mainGlobals "_law_any_stand" = some (some (.ref f22))) (l22 : K.lookup f22 = some ⟨oc22, od22, .func (PySem.W.fnOf "_law_any_stand" "_law_any_stand" (defArgs sAny) (defBody sAny) (defScope sAny) .none kV22 dc22 pm22 an22 cd22 ct22), sl22⟩) (c22 : PySem.W.codeIn K cd22 "_law_any_stand" = true) (k22 : PySem.W.keepIn K (.ref f22) = true)
    (a23 : PySem.W.nsIn K mainGlobals "_law_gone" = some (some (.ref f23))) (l23 : K.lookup f23 = some ⟨oc23, od23, .func (PySem.W.fnOf "_law_gone" "_law_gone" (defArgs sLGone) (defBody sLGone) (defScope sLGone) .none kV23 dc23 pm23 an23 cd23 ct23), sl23⟩) (c23 : PySem.W.codeIn K cd23 "_law_gone" = true) (k23 : PySem.W.keepIn K (.ref f23) = true)
    (a24 : PySem.W.nsIn K mainGlobals "_law_right" = some (some (.ref f24))) (l24 : K.lookup f24 = some ⟨oc24, od24, .func (PySem.W.fnOf "_law_right" "_law_right" (defArgs sRight) (defBody sRight) (defScope sRight) .none kV24 dc24 pm24 an24 cd24 ct24), sl24⟩) (c24 : PySem.W.codeIn K cd24 "_law_right" = true) (k24 : PySem.W.keepIn K (.ref f24) = true)
    (a25 : PySem.W.nsIn K mainGlobals "law" = some (some (.ref f25))) (l25 : K.lookup f25 = some ⟨oc25, od25, .func (PySem.W.fnOf "law" "law" (defArgs sLaw) (defBody sLaw) (defScope sLaw) .none kV25 dc25 pm25 an25 cd25 ct25), sl25⟩) (c25 : PySem.W.codeIn K cd25 "law" = true) (k25 : PySem.W.keepIn K (.ref f25) = true)
    (z1 : PySem.W.nsIn K mainGlobals "len" = some none)
    (z2 : PySem.W.nsIn K mainGlobals "abs" = some none)
    (z3 : PySem.W.nsIn K mainGlobals "int" = some none)
    (z4 : PySem.W.nsIn K mainGlobals "list" = some none)
    (z5 : PySem.W.nsIn K mainGlobals "tuple" = some none)
    (z6 : PySem.W.nsIn K mainGlobals "enumerate" = some none)
    (z7 : PySem.W.nsIn K mainGlobals "range" = some none)
    (z8 : PySem.W.nsIn K mainGlobals "min" = some none)
    (z9 : PySem.W.nsIn K mainGlobals "max" = some none)
    (z10 : PySem.W.nsIn K mainGlobals "sorted" = some none)
    (z11 : PySem.W.nsIn K mainGlobals "isinstance" = some none)
    (z12 : PySem.W.nsIn K mainGlobals "zip" = some none)
    (z13 : PySem.W.nsIn K mainGlobals "all" = some none)
    (z14 : PySem.W.nsIn K mainGlobals "str" = some none)
    (z15 : PySem.W.nsIn K mainGlobals "bool" = some none)
    (z16 : PySem.W.nsIn K mainGlobals "any" = some none)
    (z17 : PySem.W.nsIn K mainGlobals "repr" = some none)
    (z18 : PySem.W.nsIn K mainGlobals "set" = some none)
    (z19 : PySem.W.nsIn K mainGlobals "sum" = some none)
    : ∃ fd : FuncData, (∀ (s : Shared) (v : Value), BindsTo s fd ⟨[v], []⟩ [("_law_script", v)]) ∧ ∀ base : Heap, K.In base → base.Ns mainGlobals mg → FnOk l.prog w K mg base CX0 8 fa fd ["_law_script"] (spLaw K) := by
  have e := hfa.symm.trans (PySem.W.mg_of XK G a25)
  cases e
  have FBo := fun_mk (st := sBoth) l1 c1 k1
  have gBo := PySem.W.mg_of XK G a1
  have bBo := FBo.binds (ps := ["friends"]) fun _ _ _ _ _ _ us hl => match us, hl with | [_], _ => rfl
  have FL := fun_mk (st := sLfp) l2 c2 k2
  have gL := PySem.W.mg_of XK G a2
  have bL := FL.binds (ps := ["known", "row", "who"]) fun _ _ _ _ _ _ us hl => match us, hl with | [_, _, _], _ => rfl
  have FLa := fun_mk (st := sLooseAt) l3 c3 k3
  have gLa := PySem.W.mg_of XK G a3
  have bLa := FLa.binds (ps := ["known", "row", "place"]) fun _ _ _ _ _ _ us hl => match us, hl with | [_, _, _], _ => rfl
  have FHl := fun_mk (st := sHind) l4 c4 k4
  have gHl := PySem.W.mg_of XK G a4
  have bHl := FHl.binds (ps := ["known", "row", "but"]) fun _ _ _ _ _ _ us hl => match us, hl with | [_, _, _], _ => rfl
  have FGs := fun_mk (st := sStayed) l5 c5 k5
  have gGs := PySem.W.mg_of XK G a5
  have bGs := FGs.binds (ps := ["known", "row", "but"]) fun _ _ _ _ _ _ us hl => match us, hl with | [_, _, _], _ => rfl
  have FGl := fun_mk (st := sGone) l6 c6 k6
  have gGl := PySem.W.mg_of XK G a6
  have bGl := FGl.binds (ps := ["friends", "row", "but"]) fun _ _ _ _ _ _ us hl => match us, hl with | [_, _, _], _ => rfl
  have gGo := PySem.W.mg_of XK G a7
  have gLo := PySem.W.mg_of XK G a8
  have FX := fun_mk (st := sBox) l9 c9 k9
  have gX := PySem.W.mg_of XK G a9
  have bX := FX.binds (ps := ["_law_cells_here", "_law_k"]) fun _ _ _ _ _ _ us hl => match us, hl with | [_, _], _ => rfl
  have FT := fun_mk (st := sTake) l10 c10 k10
  have gT := PySem.W.mg_of XK G a10
  have bT := FT.binds (ps := ["_law_box_here", "_law_many"]) fun _ _ _ _ _ _ us hl => match us, hl with | [_, _], _ => rfl
  have FC := fun_mk (st := sCells) l11 c11 k11
  have gC := PySem.W.mg_of XK G a11
  have bC := FC.binds (ps := ["_law_script", "_law_utmost"]) fun _ _ _ _ _ _ us hl => match us, hl with | [_, _], _ => rfl
  have FN := fun_mk (st := sNames) l12 c12 k12
  have gN := PySem.W.mg_of XK G a12
  have bN := FN.binds (ps := ["_law_box_here", "_law_many"]) fun _ _ _ _ _ _ us hl => match us, hl with | [_, _], _ => rfl
  have FP := fun_mk (st := sPals) l13 c13 k13
  have gP := PySem.W.mg_of XK G a13
  have bP := FP.binds (ps := ["_law_box_here", "_law_pool"]) fun _ _ _ _ _ _ us hl => match us, hl with | [_, _], _ => rfl
  have FA := fun_mk (st := sAre) l14 c14 k14
  have gA := PySem.W.mg_of XK G a14
  have bA := FA.binds (ps := ["_law_pals_here", "_law_mine", "_law_its"]) fun _ _ _ _ _ _ us hl => match us, hl with | [_, _, _], _ => rfl
  have FCo := fun_mk (st := sCome) l15 c15 k15
  have gCo := PySem.W.mg_of XK G a15
  have bCo := FCo.binds (ps := ["_law_pals_here", "_law_stand", "_law_name"]) fun _ _ _ _ _ _ us hl => match us, hl with | [_, _, _], _ => rfl
  have FS := fun_mk (st := sStandOf) l16 c16 k16
  have gS := PySem.W.mg_of XK G a16
  have bS := FS.binds (ps := ["_law_pals_here", "_law_some"]) fun _ _ _ _ _ _ us hl => match us, hl with | [_, _], _ => rfl
  have FW := fun_mk (st := sStrewn) l17 c17 k17
  have gW := PySem.W.mg_of XK G a17
  have bW := FW.binds (ps := ["_law_box_here", "_law_some"]) fun _ _ _ _ _ _ us hl => match us, hl with | [_, _], _ => rfl
  have FLl := fun_mk (st := sLoose) l18 c18 k18
  have gLl := PySem.W.mg_of XK G a18
  have bLl := FLl.binds (ps := ["_law_pals_here", "_law_stand", "_law_name"]) fun _ _ _ _ _ _ us hl => match us, hl with | [_, _, _], _ => rfl
  have FSa := fun_mk (st := sSame) l19 c19 k19
  have gSa := PySem.W.mg_of XK G a19
  have bSa := FSa.binds (ps := ["_law_found", "_law_due"]) fun _ _ _ _ _ _ us hl => match us, hl with | [_, _], _ => rfl
  have FH := fun_mk (st := sThinned) l20 c20 k20
  have gH := PySem.W.mg_of XK G a20
  have bH := FH.binds (ps := ["_law_some", "_law_name"]) fun _ _ _ _ _ _ us hl => match us, hl with | [_, _], _ => rfl
  have FFi := fun_mk (st := sFine) l21 c21 k21
  have gFi := PySem.W.mg_of XK G a21
  have bFi := FFi.binds (ps := ["_law_box_here", "_law_pals_here", "_law_pool"]) fun _ _ _ _ _ _ us hl => match us, hl with | [_, _, _], _ => rfl
  have FY := fun_mk (st := sAny) l22 c22 k22
  have gY := PySem.W.mg_of XK G a22
  have bY := FY.binds (ps := ["_law_box_here", "_law_pals_here", "_law_pool"]) fun _ _ _ _ _ _ us hl => match us, hl with | [_, _, _], _ => rfl
  have FLg := fun_mk (st := sLGone) l23 c23 k23
  have gLg := PySem.W.mg_of XK G a23
  have bLg := FLg.binds (ps := ["_law_box_here", "_law_pals_here", "_law_stand", "_law_stay"]) fun _ _ _ _ _ _ us hl => match us, hl with | [_, _, _, _], _ => rfl
  have FR := fun_mk (st := sRight) l24 c24 k24
  have gR := PySem.W.mg_of XK G a24
  have bR := FR.binds (ps := ["_law_box_here"]) fun _ _ _ _ _ _ us hl => match us, hl with | [_], _ => rfl
  have FLaw := fun_mk (st := sLaw) l25 c25 k25
  have gLaw := PySem.W.mg_of XK G a25
  have bLaw := FLaw.binds (ps := ["_law_script"]) fun _ _ _ _ _ _ us hl => match us, hl with | [_], _ => rfl
  have B : Blt mg := ⟨PySem.W.mg_none_of XK G z1, PySem.W.mg_none_of XK G z2, PySem.W.mg_none_of XK G z3, PySem.W.mg_none_of XK G z4, PySem.W.mg_none_of XK G z5, PySem.W.mg_none_of XK G z6, PySem.W.mg_none_of XK G z7, PySem.W.mg_none_of XK G z8, PySem.W.mg_none_of XK G z9, PySem.W.mg_none_of XK G z10, PySem.W.mg_none_of XK G z11, PySem.W.mg_none_of XK G z12, PySem.W.mg_none_of XK G z13, PySem.W.mg_none_of XK G z14, PySem.W.mg_none_of XK G z15, PySem.W.mg_none_of XK G z16, PySem.W.mg_none_of XK G z17, PySem.W.mg_none_of XK G z18, PySem.W.mg_none_of XK G z19⟩
  refine ⟨PySem.W.fnOf "law" "law" (defArgs sLaw) (defBody sLaw) (defScope sLaw) .none kV25 dc25 pm25 an25 cd25 ct25, fun s v => .of_eq rfl, fun base _ _ => ?_⟩
  have cT : Cal l.prog w K mg base 1 "_law_take" _ spTake := ⟨_, _, ok_take FT, gT, FT.kp, bT⟩
  have cX : Cal l.prog w K mg base 1 "_law_box" _ spBox := ⟨_, _, ok_box B FX, gX, FX.kp, bX⟩
  have cC : Cal l.prog w K mg base 1 "_law_cells" _ (spCells K) := ⟨_, _, ok_cells B FC, gC, FC.kp, bC⟩
  have cN : Cal l.prog w K mg base 2 "_law_names" _ spNames := ⟨_, _, ok_names B cT FN, gN, FN.kp, bN⟩
  have cP : Cal l.prog w K mg base 2 "_law_pals" _ spPals := ⟨_, _, ok_pals B cT FP, gP, FP.kp, bP⟩
  have cA : Cal l.prog w K mg base 1 "_law_are" _ spAre := ⟨_, _, ok_are B FA, gA, FA.kp, bA⟩
  have cCo : Cal l.prog w K mg base 2 "_law_come" _ spCome := ⟨_, _, ok_come B cA FCo, gCo, FCo.kp, bCo⟩
  have cS : Cal l.prog w K mg base 3 "_law_stand_of" _ spStandOf := ⟨_, _, ok_standOf cCo FS, gS, FS.kp, bS⟩
  have cW : Cal l.prog w K mg base 2 "_law_strewn" _ spStrewn := ⟨_, _, ok_strewn B cT FW, gW, FW.kp, bW⟩
  have cH : Cal l.prog w K mg base 1 "_law_thinned" _ spThinned := ⟨_, _, ok_thinned B FH, gH, FH.kp, bH⟩
  have cFi : Cal l.prog w K mg base 4 "_law_fine_stand" _ spFine := ⟨_, _, ok_fine cS cW FFi, gFi, FFi.kp, bFi⟩
  have cY : Cal l.prog w K mg base 5 "_law_any_stand" _ spAny := ⟨_, _, ok_any B cT cFi cW cH FY, gY, FY.kp, bY⟩
  have cSa : Cal l.prog w K mg base 3 "_law_same" _ (spSame 3) := ⟨_, _, ok_same B FSa gSa bSa 3, gSa, FSa.kp, bSa⟩
  have cBo : Cal l.prog w K mg base 1 "both_ways" _ spBoth := ⟨_, _, ok_both FBo, gBo, FBo.kp, bBo⟩
  have cL : Cal l.prog w K mg base 1 "last_friend_place" _ spLfp := ⟨_, _, ok_lfp B FL, gL, FL.kp, bL⟩
  have cLa : Cal l.prog w K mg base 2 "loose_at" _ spLooseAt := ⟨_, _, ok_looseAt B cL FLa, gLa, FLa.kp, bLa⟩
  have cLl : Cal l.prog w K mg base 3 "_law_loose" _ spLoose := ⟨_, _, ok_loose cCo FLl, gLl, FLl.kp, bLl⟩
  have cHl : Cal l.prog w K mg base 3 "hindmost_loose" _ (spHind K) := ⟨_, _, ok_hind B cLa FHl, gHl, FHl.kp, bHl⟩
  have cGs : Cal l.prog w K mg base 4 "gone_and_stayed" _ (spStayed K) := ⟨_, _, ok_stayed B cHl FGs, gGs, FGs.kp, bGs⟩
  have cGl : Cal l.prog w K mg base 5 "gone_and_left" _ (spGone K) := ⟨_, _, ok_gone cBo cGs FGl, gGl, FGl.kp, bGl⟩
  have cLg : Cal l.prog w K mg base 4 "_law_gone" _ spLGone := ⟨_, _, ok_lgone B cT cLl cH FLg, gLg, FLg.kp, bLg⟩
  have cGo := cal_goers (P := l.prog) (w := w) (mg := mg) (base := base) l7 c7 k7 n7 e7 gGo cGl
  have cLo := cal_left_over (P := l.prog) (w := w) (mg := mg) (base := base) l8 c8 k8 n8 e8 gLo cGl
  have cR : Cal l.prog w K mg base 7 "_law_right" _ spRight := ⟨_, _, ok_right B cT cN cP cY cFi cW cLg cGo cLo cSa FR, gR, FR.kp, bR⟩
  exact ok_law B cC cX cR FLaw
end Lk
open PySem PySem.W PyProof.Rows
set_option maxRecDepth 100000 in
set_option maxHeartbeats 0 in
theorem PySem.Challenge.cw_letinrow_k08_whole_who_is_left_whichever_holds : PySem.Challenge.rw_letinrow_k08_whole_who_is_left_whichever.Holds := by
  w_on; o_law; k_head; (case hw => w_witness2)
  k_fill
  refine Lk.walk_law (l := PySem.Challenge.rw_letinrow_k08_whole_who_is_left_whichever) (n := 63) (k := 8) (x := "_law_script") (sp := fun w => Lk.spLaw _) rfl (by decide) rfl ⟨rfl, by decide, by decide⟩ (fun w h Y => PySem.W.kIn_of Y) ?F (fun _ _ a ns hl hS => ⟨a, ns, rfl, hS, hl, fun _ => rfl⟩)
  case F =>
    intro w mg fa h KX G hmg
    refine' Lk.all_mk KX G hmg ?a1 ?l1 ?c1 ?k1 ?a2 ?l2 ?c2 ?k2 ?a3 ?l3 ?c3 ?k3 ?a4 ?l4 ?c4 ?k4 ?a5 ?l5 ?c5 ?k5 ?a6 ?l6 ?c6 ?k6 ?a7 ?l7 ?c7 ?k7 ?n7 ?e7 ?a8 ?l8 ?c8 ?k8 ?n8 ?e8 ?a9 ?l9 ?c9 ?k9 ?a10 ?l10 ?c10 ?k10 ?a11 ?l11 ?c11 ?k11 ?a12 ?l12 ?c12 ?k12 ?a13 ?l13 ?c13 ?k13 ?a14 ?l14 ?c14 ?k14 ?a15 ?l15 ?c15 ?k15 ?a16 ?l16 ?c16 ?k16 ?a17 ?l17 ?c17 ?k17 ?a18 ?l18 ?c18 ?k18 ?a19 ?l19 ?c19 ?k19 ?a20 ?l20 ?c20 ?k20 ?a21 ?l21 ?c21 ?k21 ?a22 ?l22 ?c22 ?k22 ?a23 ?l23 ?c23 ?k23 ?a24 ?l24 ?c24 ?k24 ?a25 ?l25 ?c25 ?k25 ?z1 ?z2 ?z3 ?z4 ?z5 ?z6 ?z7 ?z8 ?z9 ?z10 ?z11 ?z12 ?z13 ?z14 ?z15 ?z16 ?z17 ?z18 ?z19
    (case a1 => k_is); (case l1 => k_is); (case c1 => k_is); (case k1 => k_is)
    (case a2 => k_is); (case l2 => k_is); (case c2 => k_is); (case k2 => k_is)
    (case a3 => k_is); (case l3 => k_is); (case c3 => k_is); (case k3 => k_is)
    (case a4 => k_is); (case l4 => k_is); (case c4 => k_is); (case k4 => k_is)
    (case a5 => k_is); (case l5 => k_is); (case c5 => k_is); (case k5 => k_is)
    (case a6 => k_is); (case l6 => k_is); (case c6 => k_is); (case k6 => k_is)
    (case a7 => k_is); (case l7 => k_is); (case c7 => k_is); (case k7 => k_is)
    (case n7 => k_is); (case e7 => k_is); (case a8 => k_is); (case l8 => k_is)
    (case c8 => k_is); (case k8 => k_is); (case n8 => k_is); (case e8 => k_is)
    (case a9 => k_is); (case l9 => k_is); (case c9 => k_is); (case k9 => k_is)
    (case a10 => k_is); (case l10 => k_is); (case c10 => k_is); (case k10 => k_is)
    (case a11 => k_is); (case l11 => k_is); (case c11 => k_is); (case k11 => k_is)
    (case a12 => k_is); (case l12 => k_is); (case c12 => k_is); (case k12 => k_is)
    (case a13 => k_is); (case l13 => k_is); (case c13 => k_is); (case k13 => k_is)
    (case a14 => k_is); (case l14 => k_is); (case c14 => k_is); (case k14 => k_is)
    (case a15 => k_is); (case l15 => k_is); (case c15 => k_is); (case k15 => k_is)
    (case a16 => k_is); (case l16 => k_is); (case c16 => k_is); (case k16 => k_is)
    (case a17 => k_is); (case l17 => k_is); (case c17 => k_is); (case k17 => k_is)
    (case a18 => k_is); (case l18 => k_is); (case c18 => k_is); (case k18 => k_is)
    (case a19 => k_is); (case l19 => k_is); (case c19 => k_is); (case k19 => k_is)
    (case a20 => k_is); (case l20 => k_is); (case c20 => k_is); (case k20 => k_is)
    (case a21 => k_is); (case l21 => k_is); (case c21 => k_is); (case k21 => k_is)
    (case a22 => k_is); (case l22 => k_is); (case c22 => k_is); (case k22 => k_is)
    (case a23 => k_is); (case l23 => k_is); (case c23 => k_is); (case k23 => k_is)
    (case a24 => k_is); (case l24 => k_is); (case c24 => k_is); (case k24 => k_is)
    (case a25 => k_is); (case l25 => k_is); (case c25 => k_is); (case k25 => k_is)
    (case z1 => k_is); (case z2 => k_is); (case z3 => k_is); (case z4 => k_is)
    (case z5 => k_is); (case z6 => k_is); (case z7 => k_is); (case z8 => k_is)
    (case z9 => k_is); (case z10 => k_is); (case z11 => k_is); (case z12 => k_is)
    (case z13 => k_is); (case z14 => k_is); (case z15 => k_is); (case z16 => k_is)
    (case z17 => k_is); (case z18 => k_is); (case z19 => k_is)
