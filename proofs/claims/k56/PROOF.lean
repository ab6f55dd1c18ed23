import PyProof.Rows.All
import Wide.All
import OpenK.AllK
import Wide.FinOn
import PyProof.ReprRoads
import KE.KNestM
import HandS.ForMost
import HandS.EndTab
import HandS.ExcIs
import HandS.ExcValue
import HandS.ExcOwn
import HandS.RaiseMore
import HandS.IsInst
import HandS.Gcd
import HandS.Wide
import HandS.WideMore
import HandS.CallLocal
import HandS.WordsExc
import HandS.Style
import HandS.ExcInit
import KE.KExcSuper
import HandS.ExcField
import KE.KExcIs
import HandS.TupAny
import HandS.Zip0
import HandS.Walk
import HandS.Iter
import KE.KDictZip
import HandS.Rev
import HandS.Lambda
import HandS.Conv
import PyProof.ReprLen
import PySem.Challenge.RW_hitclocks_k56_words_put_in_and_taken_out
import HandS.Strs
import HandS.Text
import HandS.SetFor
import PyProof.P3Eq
set_option Elab.async false
set_option linter.all false
set_option maxRecDepth 100000
set_option maxHeartbeats 2000000
namespace HG
open PySem PySem.Spec PyProof.Rows L2

/-! ## repr of data, where no repr runs around -/
abbrev NoG (A : Around) : Prop := A.guards = some []

def rRepr (K : PySem.W.Frag) : List V → Hp → VK → Prop := fun xs H Q =>
  ∃ v d, xs = [v] ∧ Dp K H v d ∧ d.showable = true ∧ d.hasDict = false ∧ d.depth ≤ 64
    ∧ d.shown.length ≤ sizeLine ∧ Q (.str d.shown) H

theorem call_reprD {X : Cx} (hg : NoG X.A) (hu : X.A.units + 66 < cLine) :
    CallR X (.builtin "repr") (rRepr X.K) := by
  intro pins s σ H xs us Q I r h
  obtain ⟨v, d, rfl, hd, hs, hn, hdep, hz, q⟩ := h
  cases r with
  | cons rv rn =>
    rename_i u us'
    cases rn
    obtain ⟨as, hr⟩ := Dp.reads I d v u hd rv
    cases hd with
    | non =>
      cases rv
      simp only [PyData.shown] at q
      exact PySem.P.repr_of_none ⟨.str _, H, I.tok _, ⟨_, rfl⟩, q⟩
    | bl b =>
      cases rv
      simp only [PyData.shown] at q
      exact PySem.P.repr_of_bool ⟨.str _, H, I.tok _, ⟨_, rfl⟩, q⟩
    | int i =>
      obtain ⟨t, rfl⟩ := rv
      simp only [PyData.shown] at q
      exact PySem.P.repr_of_int (by simpa [PyData.showable] using hs) ⟨.str _, H, I.tok _, ⟨_, rfl⟩, q⟩
    | str x =>
      obtain ⟨t, rfl⟩ := rv
      simp only [PyData.shown] at q
      exact PySem.P.repr_of_str ⟨.str _, H, I.tok _, ⟨_, rfl⟩, q⟩ (by simpa only [PyData.shown] using hz)
    | lst hq ha =>
      obtain rfl := (show u = Value.ref _ from rv)
      exact repr_of_reads' hr hs (fun z => by rw [hn] at z; cases z) hg (by omega) (fun _ _ e => e)
        (fun h' u tk hk => ⟨.str _, H, I.kept (t' := tk) hk, ⟨_, rfl⟩, q⟩) hz
    | tup hq ha =>
      obtain rfl := (show u = Value.ref _ from rv)
      exact repr_of_reads' hr hs (fun z => by rw [hn] at z; cases z) hg (by omega) (fun _ _ e => e)
        (fun h' u tk hk => ⟨.str _, H, I.kept (t' := tk) hk, ⟨_, rfl⟩, q⟩) hz

/-! ## defs that may ask repr: promised where no repr runs around -/
structure FnP (P : Program) (w : World) (K : PySem.W.Frag) (mg : Str → Option Value) (base : Heap) (CX : CXT)
    (k : Nat) (f : Addr) (fd : FuncData) (ps : List Str) (sp : Sp) : Prop where
  args : ∀ vs H Q E, sp vs H Q E → vs.length = ps.length
  goes : ∀ (A : Around) (frames : List Env) (s : Shared) (H : Hp) (given : Args) (us : List Value) (vs : List V)
    (Q : VK) (E : XK), Room k A → NoG A → Env0 P w K mg base A frames s H → BindsTo s fd given (ps.zip us) →
    Vals vs us → sp vs H Q E → codeAny (model P w) A (.call (.ref f) given) (CR CX frames P w H s Q E) s

section
variable {P : Program} {w : World} {K : PySem.W.Frag} {mg : Str → Option Value} {base : Heap}
theorem FnP.ofFun {x qual : Str} {st : Stmt} {f : Addr} {fd : FuncData} {N ps : List Str} {k : Nat} {sp : Sp}
    (F : Fun K x qual st f fd) (S : FnScope N ps (defScope st))
    (len : ∀ vs H Q E, sp vs H Q E → vs.length = ps.length)
    (body : ∀ (cdv : Value) (A : Around) (frames : List Env) (s : Shared) (H : Hp) (vs : List V) (Q : VK) (E : XK),
      NoG (A.deeper (envOfC qual (defScope st) s.heap.objs.size f cdv)) →
      Room k (A.deeper (envOfC qual (defScope st) s.heap.objs.size f cdv)) → sp vs H Q E →
      ∃ t, PSs (cxOf CX0 P w K mg base N qual (defScope st) f cdv A frames s H E).nox (defBody st) t ∧
        t { nx := fun _ H' => Q .non H', rt := Q } (start N vs) H) :
    FnP P w K mg base CX0 (k + 1) f fd ps sp := by
  obtain ⟨oc, od, kV, doc, pm, an, cdv, ct, osl, rfl, lk, hcd⟩ := F.ex
  refine ⟨len, fun A frames s H given us vs Q E room ng e0 hb hv hs => ?_⟩
  refine LamX.run_ofS lk hcd S room e0 hb hv (len _ _ _ _ hs) fun room' => ?_
  obtain ⟨t, h, q⟩ := body cdv A frames s H vs Q E ng room' hs
  exact ⟨t, h.nox, q⟩
theorem FnP.ofOk {k : Nat} {f : Addr} {fd : FuncData} {ps : List Str} {sp : Sp} {CX : CXT}
    (F : FnOk P w K mg base CX k f fd ps sp) : FnP P w K mg base CX k f fd ps sp :=
  ⟨F.len, fun A fr s H g us vs Q E r _ e b v h => F.run A fr s H g us vs Q E r e b v h⟩
end

section
variable {X : Cx} {CX : CXT} {k : Nat} {f : Addr} {fd : FuncData} {ps ks : List Str} {sp : Sp} {dvs : List V}
  {ds : List Value} {E : XK} {x : Str} {p pos : Pos} {e : Expr} {es : List Expr} {t tk : TA} {kws : List Keyword}
theorem FnP.goesTo {pins : List (Addr × Obj)} {σ : L2.St} {H : Hp} {s : Shared} {Q : VK} {given : Args} {us : List Value}
    {vs : List V} (F : FnP X.prog X.w X.K X.mg X.base CX k f fd ps sp) (room : Room k X.A) (ng : NoG X.A)
    (lets : Passes CX X E) (I : Inv X pins σ H s) (hb : BindsTo s fd given (ps.zip us)) (r : Vals vs us)
    (h : sp vs H Q E) :
    codeAny (model X.prog X.w) X.A (.call (.ref f) given)
      (fun r s' => match r with
        | .ok (.ret u) => EP X pins σ Q u s'
        | .ok _ => False
        | .error z => X.xe z s') s := by
  refine codeAny_mono (F.goes X.A X.stack s H given us vs Q E room ng I.env0 hb r h) fun res s' hq => ?_
  match res, hq with
  | .error z, hq => exact lets pins σ H s z s' I hq
  | .ok (.ret u), hq => exact I.after hq
  | .ok .next, hq => exact hq.elim
  | .ok .brk, hq => exact hq.elim
  | .ok .cont, hq => exact hq.elim
theorem pe_callP (F : FnP X.prog X.w X.K X.mg X.base CX k f fd ps sp) (room : Room k X.A) (ng : NoG X.A)
    (glob : Gl X x) (at_ : X.mg x = some (.ref f)) (keep : PySem.W.keepIn X.K (.ref f) = true)
    (binds : Binds X.K fd ps []) (lets : Passes CX X E) (args : PA X (e :: es) t)
    (hdb : (x == ("__debug__" : Str)) = false := by decide)
    (he : starEach (e :: es) X.env = (false, eval e X.env) :: starEach es X.env := by rfl)
    (hpl : (backTo pos (starEach es X.env)).any (·.1) = false := by rfl) :
    PE X (.Call (.Name x p) (e :: es) [] pos) (fun σ H Q => t σ H fun vs H1 => sp vs H1 Q E) := by
  refine ⟨fun pins s σ H Q I h => wpAny_Call_Name_kw (ld_glob I glob at_ ?_ hdb)⟩
  refine PySem.W.callWith_K (h₀ := X.base) I.ok.mod.kin keep
    (thn (args.run pos pins s σ H _ I h) fun us s1 ⟨vs, H1, I1, r, q⟩ => ⟨I1.kIn, ?_⟩) he hpl
  have len : us.length = ps.length := by
    rw [← r.length]
    exact F.args _ _ _ _ q
  have b := binds s1 us I1.kIn (by rw [List.append_nil]; exact len)
  rw [List.append_nil] at b
  refine wpAny_call (codeAny_mono (F.goesTo room ng lets I1 b r q) fun res s' hq => ?_)
  match res, hq with
  | .error z, hq => exact hq
  | .ok (.ret u), hq => exact hq
  | .ok .next, hq => exact hq.elim
  | .ok .brk, hq => exact hq.elim
  | .ok .cont, hq => exact hq.elim
end
end HG
set_option maxHeartbeats 2000000
namespace HG
open PySem PySem.Spec PyProof.Rows L2

/-! ## a caught exception that is kept as a value -/
/-- an exception of the class cls, with the own dict d, stands at a -/
def Exn (cls : Value) (d : Option Addr) (a : Addr) : HO :=
  .ext fun h => ∃ (ob : Obj) (fs : Array Value), h.get? a = some ob ∧ Zc cls d ob ∧ ob.data = .fields fs

theorem exn_ok {P : Program} {w : World} {H : Hp} {h : Heap} {a : Addr} {cls : Value} {d : Option Addr} {ob : Obj}
    {fs : Array Value} (e : h.get? a = some ob) (z : Zc cls d ob) (f : ob.data = .fields fs) :
    ObjOk P w H h a (Exn cls d a) :=
  ⟨⟨ob, fs, e, z, f⟩, ⟨ob, e⟩, fun _ _ ⟨o, v, q, r⟩ keep => ⟨o, v, keep o q, r⟩⟩

section
variable {X : Cx} {pins : List (Addr × Obj)} {σ : L2.St} {H : Hp} {s : Shared}
theorem track {a : Addr} {ob : Obj} {fs : Array Value} {cls : Value} {d : Option Addr} (I : Inv X pins σ H s)
    (at_ : s.heap.get? a = some ob) (z : Zc cls d ob) (f : ob.data = .fields fs) (na : H a = none)
    (young : X.s_0.heap.get? a = none) (nL : a ≠ X.env.locals) (np : ∀ p ∈ X.pn ++ pins, p.1 ≠ a) :
    Inv X pins σ (upd H a (Exn cls d a)) s := by
  have other : ∀ b, b ≠ a → upd H a (Exn cls d a) b = H b := fun b nb => upd_ne nb
  have cellNe : ∀ y c, X.env.cells.lookup y = some c → c ≠ a := fun y c hc q => by
    obtain ⟨v, o, ho, hd⟩ := I.cell y c hc
    rw [q, at_] at ho
    cases ho
    rw [f] at hd
    cases hd
  refine { ok := I.ok, os := I.os, bare := I.bare, base := ?_, loc := I.loc, cell := I.cell, free := ?_,
           freeC := ?_, pin := ?_, hok := ?_, len := I.len }
  · refine { keep := I.base.keep, slot := I.base.slot, free := ?_, there := I.base.there, tups := ?_,
             frzs := ?_, tbls := ?_ }
    · intro b o hb hn hx
      rw [other b (fun q => by rw [q, young] at hb; cases hb)]
      exact I.base.free b o hb hn hx
    · intro b xs hb
      have q := I.base.tups b xs hb
      rw [other b (ne_of_none q na)]
      exact q
    · intro b o u hb
      have q := I.base.frzs b o u hb
      rw [other b (ne_of_none q na)]
      exact q
    · intro b ps hb
      obtain ⟨more, q⟩ := I.base.tbls b ps hb
      exact ⟨more, by rw [other b (ne_of_none q na)]; exact q⟩
  · rw [other _ (Ne.symm nL)]
    exact I.free
  · intro y c hc
    rw [other c (cellNe y c hc)]
    exact I.freeC y c hc
  · intro p hp
    obtain ⟨p1, p2, p3, p4, p5⟩ := I.pin p hp
    exact ⟨p1, by rw [other _ (np p hp)]; exact p2, p3, p4, p5⟩
  · exact I.hok.laidN (fun _ _ q => q) na (exn_ok at_ z f)

/-- isinstance(e, C), e a kept exception -/
def rIsX (K : PySem.W.Frag) : List V → Hp → VK → Prop := fun xs H Q =>
  ∃ (a D C : Addr) (b : Bool), xs = [.ref a, .ref C] ∧ H a = some (Exn (.ref D) none a) ∧ ExcC K D
    ∧ PySem.W.kitOne K (.ref D) (.ref C) = some b ∧ Q (.bl b) H
theorem call_isX {X : Cx} : CallR X (.builtin "isinstance") (rIsX X.K) := by
  intro pins s σ H xs us Q I r h
  obtain ⟨a, D, C, b, rfl, ha, cl, hk, q⟩ := h
  obtain ⟨u1, u2, rfl, r1, r2⟩ := vals2 r
  cases r1
  cases r2
  obtain ⟨⟨ob, fs, at_, ⟨z1, z2⟩, f⟩, _, _⟩ := I.hok a _ ha
  have J : PySem.W.InstAt s.heap a ob D none := by
    obtain ⟨oc, od, oda, osl⟩ := ob
    dsimp only at z1 z2 f
    subst z1 z2 f
    exact ⟨at_, rfl, rfl, trivial⟩
  refine PySem.W.kia_one (PySem.W.handS_kitx_exc cl.hg cl.hk cl.hs cl.hd cl.ha cl.hn cl.ht cl.hm) I.kIn J hk
    (fun z => nomatch z) fun tk => ?_
  exact ⟨.bl b, H, I.kept (t' := tk) (fun _ _ z => z), rfl, q⟩
end

section
variable {X : Cx} {x n : Str} {c : Value} {i : Nat} {body suite : List Stmt} {b₀ : Stmt} {np pos pos' : Pos}
  {tb : WX → TS} {ts : Addr → TS}
/-- every exception of the body is one of the clause's class; behind the suite it is kept -/
def wKeep (K : PySem.W.Frag) (len : Nat) (c : Value) (i : Nat) (ts : Addr → TS) (D : Ends) : WX := fun cls d σ H =>
  PySem.W.exmOne K cls c = some true ∧ (σ.length = len → ∀ a, H a = none →
    ts a { nx := fun σ' H' => D.nx (σ'.set i none) (upd H' a (Exn cls d a)), rt := fun _ _ => False }
      (σ.set i (some (.ref a))) H)
theorem ps_try_keep (stack : X.stack = X.env :: X.outer) (frame : X.env.frame = some X.env.locals) (ex0 : X.ex = [])
    (nd : X.N.Nodup) (at_ : X.N[i]? = some n) (loc : X.env.kindOf n = some .local) (names : Names X x c)
    (hb : ∀ (W : WX) (pn : List (Addr × Obj)) (xe : Value → Shared → Prop), Takes (X.tr pn xe) W →
      PassesOwn (model X.prog X.w) X.A X.env xe → PSs (X.tr pn xe) body (tb W))
    (hsu : ∀ (a : Addr) (pn : List (Addr × Obj)), PSs (X.suite a pn) (b₀ :: suite) (ts a)) :
    PS X (.Try body [.ExceptHandler (some (.Name x np)) (some n) (b₀ :: suite) pos'] [] [] pos)
      (fun D σ H => tb (wKeep X.K X.N.length c i ts D) D σ H) := by
  refine ⟨fun pins s σ H D I h => wpAny_Try_except ?_⟩
  have ok := I.ok
  have around : X.A.frames = some (X.env :: X.outer) := by
    rw [ok.frames, stack]
  have isLoc : Loc X.env.scope n := .inl loc
  let after : Value → Shared → Prop := fun e z₁ =>
    wpAny (model X.prog X.w) X.A (noteFrame e X.env) (fun _ z₂ =>
      wpAny (model X.prog X.w) X.A (setFlight e none) (fun _ z₃ =>
        wpAny (model X.prog X.w) X.A
          (handleBy e X.env [.ExceptHandler (some (.Name x np)) (some n) (b₀ :: suite) pos'])
          (SP X pins D) X.xe z₃) X.xe z₂) X.xe z₁
  have takes : Takes (X.tr (X.pn ++ pins) after) (wKeep X.K X.N.length c i ts D) := by
    intro u z air
    obtain ⟨a, B, sI, pins₁, σ₁, H₁, cls, d, rfl, J₁, ground, up, sky, na, os, ag, hit, then_⟩ := air
    have J : Inv X pins σ₁ H₁ sI := J₁.ofTry ok
    have sky₁ : Sky B (X.env :: X.outer) a (Zc cls d) X.env.locals z.heap := by
      rw [← stack]
      exact sky
    show wpAny (model X.prog X.w) X.A (noteFrame (.ref a) X.env) _ _ _
    refine Sky.land Zc.steady around frame sky₁ fun hA flA upA => ?_
    have JA : Inv X pins σ₁ H₁ { z with heap := hA } := J.landed ground flA.1 (up.trans upA) os ag
    obtain ⟨oA, vA, eA, zA, dA⟩ := flA.there
    have notFrame : a ∉ frs (X.env :: X.outer) := fun hm => by
      obtain ⟨_, o₂, e₂, nf⟩ := flA.2.2.1.mem hm
      rw [eA] at e₂
      cases e₂
      exact nf _ dA
    have nL : a ≠ X.env.locals := fun q =>
      notFrame (List.mem_filterMap.mpr ⟨X.env, List.mem_cons_self, by rw [frame, q]⟩)
    have nF : a ∉ X.fs := fun hm => by
      obtain ⟨e, he, q⟩ := List.mem_filterMap.mp hm
      exact notFrame (List.mem_filterMap.mpr ⟨e, List.mem_cons_of_mem _ he, q⟩)
    have notIn : ∀ o, sI.heap.get? a ≠ some o := fun o q => by
      have q₂ := ground a o q (by rw [stack]; exact notFrame)
      rw [flA.2.1] at q₂
      cases q₂
    have young : X.s_0.heap.get? a = none := by
      cases q : X.s_0.heap.get? a with
      | none => rfl
      | some o =>
        obtain ⟨o₂, q₂⟩ := J.base.there a o q (by rw [ex0]; exact fun z => nomatch z)
        exact (notIn o₂ q₂).elim
    have apart : ∀ p ∈ X.pn ++ pins, p.1 ≠ a := fun p hp q => by
      have q₂ := (J.pin p hp).1
      rw [q] at q₂
      exact notIn _ q₂
    have SA := JA.suite eA dA na nL nF
    refine wpAny_handleBy_cons (codeAny_handlers_test ?_) (by intro q; cases q)
    have isOf : PySem.W.Looks (model X.prog X.w) hA (typeOf (.ref a)) cls := fun A' Q' E' s' keep q =>
      wpAny_typeOf_ref (keep _ _ eA) (by rw [zA.1]; exact q)
    have fits := PySem.W.exm_one (M := model X.prog X.w) JA.kIn isOf hit
    have asks : ∀ {Q E : Value → Shared → Prop}, Q c { z with heap := hA } →
        wpAny (model X.prog X.w) (X.A.mark (some (.ref a))) (eval (.Name x np) X.env) Q E { z with heap := hA } := by
      intro Q E q
      obtain ⟨g, dbg, m | ⟨m, v, nn⟩⟩ := names
      · exact ld_glob (X := X.suite a ((a, oA) :: (X.pn ++ pins))) SA g m q dbg
      · exact ld_blt (X := X.suite a ((a, oA) :: (X.pn ++ pins))) SA g m v q nn dbg
    refine asks (fits.here (codeAny_handlers_suite_as ?_))
    refine HandSPX.lands_againZ flA fun hB flB upB => ?_
    have JB : Inv X pins σ₁ H₁ { z with heap := hB } :=
      J.landed ground flB.1 ((up.trans upA).trans upB) os ag
    obtain ⟨oB, vB, eB, zB, dB⟩ := flB.there
    have SB := JB.suite eB dB na nL nF
    refine store_ok (X := X.suite a ((a, oB) :: (X.pn ++ pins))) (v := .ref a) SB nd at_ isLoc rfl
      (fun sC SC => ?_) (.inr loc)
    refine wpAny_mono ((hsu a _).run [] sC _ H₁ _ SC (then_ J.len a na)) (fun f sD hD => ?_) (fun _ _ q => q.elim)
    match f, hD with
    | .next, hD =>
      obtain ⟨σD, HD, SD, qD⟩ := hD
      have own := SD.pin (a, oB) (List.mem_append_left _ List.mem_cons_self)
      have JD : Inv X ((a, oB) :: pins) σD HD sD := by
        have J0 := SD.unsuite ok
        refine { ok := J0.ok, os := J0.os, bare := J0.bare, base := J0.base, loc := J0.loc, cell := J0.cell,
                 free := J0.free, freeC := J0.freeC, pin := ?_, hok := J0.hok, len := J0.len }
        intro p hp
        rcases List.mem_append.mp hp with q | q
        · exact J0.pin p (List.mem_append_left _ q)
        · rcases List.mem_cons.mp q with q | q
          · rw [q]
            exact own
          · exact J0.pin p (List.mem_append_right _ q)
      refine gone_ok JD nd at_ loc fun sE JE => ?_
      have ownE := JE.pin (a, oB) (List.mem_append_right _ List.mem_cons_self)
      have JE' : Inv X pins (σD.set i none) HD sE := by
        refine { ok := JE.ok, os := JE.os, bare := JE.bare, base := JE.base, loc := JE.loc, cell := JE.cell,
                 free := JE.free, freeC := JE.freeC, pin := fun p hp => JE.pin p ?_, hok := JE.hok, len := JE.len }
        rcases List.mem_append.mp hp with q | q
        · exact List.mem_append_left _ q
        · exact List.mem_append_right _ (List.mem_cons_of_mem _ q)
      exact ⟨_, _, track JE' ownE.1 zB dB ownE.2.1 young nL apart, qD⟩
    | .brk, hD =>
      obtain ⟨_, _, _, qD⟩ := hD
      exact qD.elim
    | .cont, hD =>
      obtain ⟨_, _, _, qD⟩ := hD
      exact qD.elim
    | .ret u, hD =>
      obtain ⟨_, _, _, _, _, qD⟩ := hD
      exact qD.elim
  refine wpAny_mono ((hb (wKeep X.K X.N.length c i ts D) (X.pn ++ pins) after takes PassesOwn.looking).run [] s σ H D
    (I.toTry _) h) (fun f s1 hf => ?_) (fun _ _ he => he)
  match f, hf with
  | .next, hf =>
    obtain ⟨σ', H', J', q⟩ := hf
    exact wpAny_execs_nil ⟨σ', H', J'.ofTry ok, q⟩
  | .brk, hf =>
    obtain ⟨σ', H', J', q⟩ := hf
    exact ⟨σ', H', J'.ofTry ok, q⟩
  | .cont, hf =>
    obtain ⟨σ', H', J', q⟩ := hf
    exact ⟨σ', H', J'.ofTry ok, q⟩
  | .ret u, hf =>
    obtain ⟨v, σ', H', J', r, q⟩ := hf
    exact ⟨v, σ', H', J'.ofTry ok, r, q⟩
end
end HG
set_option maxHeartbeats 2000000
namespace HG
open PySem PySem.Spec PyProof.Rows L2 LamX

/-! ## the law's end: a promise that holds where no repr runs around; tables of code objects; the script's bits -/
section
variable {P : Program} {w : World} {K : PySem.W.Frag} {mg mb : Str → Option Value} {CX : CXT} {k : Nat}
  {fa a : Addr} {cs : List (Addr × Addr)} {fd : FuncData} {x : Str} {sp : Sp} {z : Shared} {vs : List Value} {ns : List Int}
abbrev emptyTab : Obj := { cls := .none, data := .fields #[] }
theorem end_call (KX : K.In z.heap) (nsG : z.heap.Ns mainGlobals mg) (nsB : z.heap.Ns builtinsNs mb)
    (boot : ∀ y : Str, y ≠ "__name__" → mb y = bootBuiltins y) (lim : z.heap.NoLimit) (gens : z.gens = #[])
    (tabs : ∀ p ∈ cs, z.heap.get? p.2 = some emptyTab) (notK : ∀ p ∈ cs, K.lookup p.2 = none)
    (code : ∀ p ∈ cs, PySem.W.CodeHd z.heap p.1 p.2)
    (bmod : ∃ (bm : Addr) (ob : Obj), mg "__builtins__" = some (.ref bm) ∧ bm ≠ builtinsNs ∧
      z.heap.get? bm = some ob ∧ ob.cls = .type "module" ∧ ob.dict = some builtinsNs ∧ ob.data = .plain)
    (isList : z.heap.get? a = some { cls := .type "list", data := .seq vs.toArray }) (areInts : IntsAre vs ns)
    (len : ns.length ≤ sizeLine) (room : Room k callerA)
    (F : ∀ base : Heap, K.In base → base.Ns mainGlobals mg → (∀ p ∈ cs, TabB base mg p.1 p.2) →
      FnP P w K mg base CX k fa fd [x] sp)
    (binds : ∀ (s : Shared) (u : Value), BindsTo s fd ⟨[u], []⟩ [(x, u)])
    (want : ∀ H : Hp, (∀ p ∈ cs, H p.2 = some (.tbl #[])) → SqL K H a (ns.map V.int) →
      sp [.ref a] H (fun v _ => v = .bl true) fun _ _ _ => False)
    (none_ : ∀ H e s', CX [] H z (fun _ _ _ => False) e s' → False) :
    codeAny (model P w) callerA (.call (.ref fa) ⟨[.ref a], []⟩)
      (fun r s' => r = .ok (.ret (.bool true)) ∧ OldK z.heap s'.heap ∧ s'.os = z.os ∧ AllBare s'.gens) z := by
  have rv := vals_ints areInts
  have lenV := areInts.length
  have tabAt : ∀ b : Addr, b ∈ cs.map (·.2) → z.heap.get? b = some emptyTab := by
    intro b hb
    obtain ⟨p, hp, rfl⟩ := List.mem_map.mp hb
    exact tabs p hp
  have aNot : a ∉ cs.map (·.2) := by
    intro hm
    have q := tabAt a hm
    rw [isList] at q
    cases q
  have inT : ∀ p ∈ cs, p.2 ∈ cs.map (·.2) := fun p hp => List.mem_map.mpr ⟨p, hp, rfl⟩
  have main : ∀ H : Hp, (∀ p ∈ cs, H p.2 = some (.tbl #[])) →
      (∀ b, H b = none ∨ b ∈ cs.map (·.2) ∨ ∃ o xs, H b = some (.frz o (.lst xs))) → SqL K H a (ns.map V.int) →
      HOk P w H z.heap → (∀ b, H b ≠ none → b = a ∨ b ∈ cs.map (·.2)) → (H a ≠ none → K.lookup a = none) →
      codeAny (model P w) callerA (.call (.ref fa) ⟨[.ref a], []⟩)
        (fun r s' => r = .ok (.ret (.bool true)) ∧ OldK z.heap s'.heap ∧ s'.os = z.os ∧ AllBare s'.gens) z := by
    intro H hT kinds script hok only freeK
    have keepB : ∀ {b : Addr} {o : Obj}, z.heap.get? b = some o → H b = none →
        (hidT z.heap H).get? b = some o := fun e n => hidT_get e n
    have untracked : ∀ {b : Addr} {o : Obj}, z.heap.get? b = some o → (∀ us n, o.data ≠ .seq us n) →
        o.data ≠ .fields #[] → H b = none := by
      intro b o e h1 h2
      cases q : H b with
      | none => rfl
      | some u =>
        rcases only b (by rw [q]; exact fun c => nomatch c) with e₁ | e₁
        · subst e₁
          rw [isList] at e
          cases e
          exact (h1 _ _ rfl).elim
        · rw [tabAt b e₁] at e
          cases e
          exact (h2 rfl).elim
    have noDict : ∀ {b : Addr} {o : Obj} {es : Array DictEntry} {ep : Nat}, z.heap.get? b = some o →
        o.data = .dict es ep → H b = none := by
      intro b o es ep e d
      refine untracked e (fun us n q => ?_) (fun q => ?_) <;> (rw [d] at q; cases q)
    have nsKeep : ∀ {b : Addr} {m : Str → Option Value}, z.heap.Ns b m → (hidT z.heap H).Ns b m :=
      fun {b m} ⟨o, es, ep, e, d, r⟩ => ⟨o, es, ep, keepB e (noDict e d), d, r⟩
    have Kb : K.In (hidT z.heap H) := by
      intro b o e
      refine keepB (KX b o e) ?_
      cases q : H b with
      | none => rfl
      | some u =>
        rcases only b (by rw [q]; exact fun c => nomatch c) with e₁ | e₁
        · subst e₁
          rw [freeK (by rw [q]; exact fun c => nomatch c)] at e
          cases e
        · obtain ⟨p, hp, rfl⟩ := List.mem_map.mp e₁
          rw [notK p hp] at e
          cases e
    have limits : (hidT z.heap H).NoLimit := by
      obtain ⟨mc, h1, h2⟩ := lim
      exact ⟨mc, nsKeep h1, h2⟩
    have M : L2.Mod K mg (hidT z.heap H) := ⟨Kb, nsKeep nsG, ⟨mb, nsKeep nsB, boot⟩, limits⟩
    have TB : ∀ p ∈ cs, TabB (hidT z.heap H) mg p.1 p.2 := by
      intro p hp
      have here := tabs p hp
      refine ⟨?_, ?_, fun q => ?_⟩
      · obtain ⟨o, us, file, tf, flags, tg, inF, text, tt, e₁, c₁, c₂, c₃, c₄, c₅, c₆, c₇, c₈, ne⟩ := code p hp
        refine ⟨o, us, file, tf, flags, tg, inF, text, tt, keepB e₁ (untracked e₁ (fun vs n q => ?_) fun q => ?_),
          c₁, c₂, c₃, c₄, c₅, c₆, c₇, c₈, ne⟩
        · rw [c₂] at q
          cases q
        · rw [c₂] at q
          cases q
          simp at c₃
      · obtain ⟨bm, ob, m₁, m₂, m₃, m₄, m₅, m₆⟩ := bmod
        refine ⟨bm, ob, m₁, m₂, fun q => ?_, fun q => ?_, keepB m₃ (untracked m₃ (fun vs n q => ?_) fun q => ?_),
          m₄, m₅, m₆⟩
        · obtain ⟨o, es, ep, e, hd, _⟩ := nsG
          rw [q, e] at m₃
          cases m₃
          rw [hd] at m₆
          cases m₆
        · rw [q, here] at m₃
          cases m₃
          cases m₆
        · rw [m₆] at q
          cases q
        · rw [m₆] at q
          cases q
      · obtain ⟨o, es, ep, e, hd, _⟩ := nsG
        rw [q, here] at e
        cases e
        cases hd
    have e0 : Env0 P w K mg (hidT z.heap H) callerA [] z H := by
      refine ⟨rfl, M, fun b o e => of_hidT e, Nat.le_of_eq (hidT_size _ _), trivial, fun b hb => ?_, hok, .of_eq gens⟩
      exact absurd (show b ∈ ([] : List Addr) from hb) (fun c => nomatch c)
    have run := (F _ Kb (nsKeep nsG) TB).goes callerA [] z H ⟨[.ref a], []⟩ [.ref a] [.ref a] _ _ room rfl e0
      (binds z (.ref a)) (.cons rfl .nil) (want H hT script)
    refine codeAny_mono run fun r s' h => ?_
    match r, h with
    | .error e, h => exact (none_ H e s' h).elim
    | .ok .next, h => exact h.elim
    | .ok .brk, h => exact h.elim
    | .ok .cont, h => exact h.elim
    | .ok (.ret u), h =>
      obtain ⟨v, H', os, bare, un, hok', rel, q⟩ := h
      have q₁ : v = .bl true := q
      subst q₁
      obtain rfl : u = Value.bool true := rel
      have same : ∀ b o, b ∉ cs.map (·.2) → z.heap.get? b = some o → s'.heap.get? b = some o := by
        intro b o nb e
        cases q : H b with
        | none =>
          exact un.keep b o e q (fun c => nomatch (show b ∈ ([] : List Addr) from c)) (fun c => nomatch c)
        | some u =>
          rcases kinds b with c | c | ⟨ob, xs, c⟩
          · rw [q] at c
            cases c
          · exact (nb c).elim
          · obtain ⟨e₁, _⟩ := hok b _ c
            obtain ⟨e₂, _⟩ := hok' b _ (un.frzs b ob _ c)
            rw [e] at e₁
            cases e₁
            exact e₂
      have grown : ∀ p ∈ cs, ∃ more : Array Value, s'.heap.get? p.2 = some { cls := .none, data := .fields more } := by
        intro p hp
        obtain ⟨more, c⟩ := un.tbls p.2 #[] (hT p hp)
        exact ⟨_, hok' p.2 _ c⟩
      refine ⟨rfl, ⟨fun b o e => ?_, fun b o e => ?_⟩, os, bare⟩
      · by_cases hb : b ∈ cs.map (·.2)
        · obtain ⟨p, hp, rfl⟩ := List.mem_map.mp hb
          obtain ⟨more, hm⟩ := grown p hp
          rw [tabs p hp] at e
          cases e
          refine .inr (.inl ⟨((code p hp).tab (tabs p hp)).isCodeTable, rfl, #[], more, rfl, ?_⟩)
          rw [Array.empty_append]
          exact hm
        · exact .inl (same b o hb e)
      · by_cases hb : b ∈ cs.map (·.2)
        · obtain ⟨p, hp, rfl⟩ := List.mem_map.mp hb
          obtain ⟨more, hm⟩ := grown p hp
          exact ⟨_, hm⟩
        · exact ⟨o, same b o hb e⟩
  let tabH : Hp := fun b => if b ∈ cs.map (·.2) then some (.tbl #[]) else none
  have tabYes : ∀ b, b ∈ cs.map (·.2) → tabH b = some (.tbl #[]) := fun b hb => if_pos hb
  have tabNo : ∀ b, b ∉ cs.map (·.2) → tabH b = none := fun b hb => if_neg hb
  cases hk : K.lookup a with
  | some o =>
    have e := KX a o hk
    rw [isList] at e
    cases e
    have sizeV : vs.toArray.size ≤ sizeLine := by
      rw [List.size_toArray, lenV]
      exact len
    have relV : Vals (ns.map V.int) vs.toArray.toList := by simpa using rv
    refine main tabH (fun p hp => tabYes _ (inT p hp)) (fun b => ?_)
      (.inr ⟨_, vs.toArray, _, hk, rfl, rfl, rfl, sizeV, relV⟩) (fun b u q => ?_) (fun b q => ?_)
      fun q => absurd (tabNo a aNot) q
    · by_cases hb : b ∈ cs.map (·.2)
      · exact .inr (.inl hb)
      · exact .inl (tabNo b hb)
    · by_cases hb : b ∈ cs.map (·.2)
      · rw [tabYes b hb] at q
        cases q
        exact tabAt b hb
      · rw [tabNo b hb] at q
        cases q
    · by_cases hb : b ∈ cs.map (·.2)
      · exact .inr hb
      · exact absurd (tabNo b hb) q
  | none =>
    let scr : HO := .frz { cls := .type "list", data := .seq vs.toArray } (.lst (ns.map V.int))
    have upA : upd tabH a scr a = some scr := upd_same
    have upN : ∀ b, b ≠ a → upd tabH a scr b = tabH b := fun b nb => upd_ne nb
    refine main (upd tabH a scr) (fun p hp => ?_) (fun b => ?_) (.inl (.inr ⟨_, upA⟩)) (fun b u q => ?_)
      (fun b q => ?_) fun _ => hk
    · rw [upN _ (fun q => aNot (by rw [← q]; exact inT p hp))]
      exact tabYes _ (inT p hp)
    · by_cases hb : b = a
      · subst hb
        exact .inr (.inr ⟨_, _, upA⟩)
      · rw [upN b hb]
        by_cases hb₂ : b ∈ cs.map (·.2)
        · exact .inr (.inl hb₂)
        · exact .inl (tabNo b hb₂)
    · by_cases hb : b = a
      · subst hb
        rw [upA] at q
        cases q
        refine ⟨isList, ?_, vs, _, rv, isList⟩
        rw [List.length_map]
        exact len
      · rw [upN b hb] at q
        by_cases hb₂ : b ∈ cs.map (·.2)
        · rw [tabYes b hb₂] at q
          cases q
          exact tabAt b hb₂
        · rw [tabNo b hb₂] at q
          cases q
    · by_cases hb : b = a
      · exact .inl hb
      · rw [upN b hb] at q
        by_cases hb₂ : b ∈ cs.map (·.2)
        · exact .inr hb₂
        · exact absurd (tabNo b hb₂) q
end

/-- what is to be known of the law's def at the head's heap h -/
def LawP (l : PySem.W.OpenLaw) (w : World) (K : PySem.W.Frag) (k n : Nat) (x : Str) (mg : Str → Option Value)
    (fa : Addr) (h : Heap) : Prop :=
  ∃ (fd : FuncData) (cs : List (Addr × Addr)) (sp : Sp), (∀ p ∈ cs, h.get? p.2 = some emptyTab) ∧
    (∀ p ∈ cs, K.lookup p.2 = none) ∧ (∀ p ∈ cs, PySem.W.CodeHd h p.1 p.2) ∧
    (∀ (s : Shared) (u : Value), BindsTo s fd ⟨[u], []⟩ [(x, u)]) ∧
    (∀ (H : Hp) (a : Addr) (ns : List Int), ns.length ≤ n → (∀ i ∈ ns, Builtin.Int.intBits i ≤ 1048576) →
      (∀ p ∈ cs, H p.2 = some (.tbl #[])) → SqL K H a (ns.map V.int) →
      sp [.ref a] H (fun v _ => v = .bl true) fun _ _ _ => False) ∧
    ∀ base : Heap, K.In base → base.Ns mainGlobals mg → (∀ p ∈ cs, TabB base mg p.1 p.2) →
      FnP l.prog w K mg base CX0 k fa fd [x] sp
theorem walk_ofP {l : PySem.W.OpenLaw} {n k : Nat} {q : Program} {loose : List Str}
    {XP : (Str → Option Value) → Heap → Prop} {YP : World → Heap → Prop} {d : DefRec} {K : Params → PySem.W.Frag}
    {x : Str} (most : l.most = some n) (small : n ≤ sizeLine) (plain : d.params.defaults = []) (room : Room k callerA)
    (inK : ∀ (w : World) (h : Heap), YP w h → (K w.params).In h)
    (F : ∀ (w : World) (mg : Str → Option Value) (fa : Addr) (h : Heap), YP w h → (K w.params).In h →
      h.Ns mainGlobals mg → mg d.name = some (.ref fa) → LawP l w (K w.params) k n x mg fa h) :
    PySem.W.WalkO q loose XP YP l.row.toRowW d [] (fun f vs => PySem.call f vs) := by
  refine Att.attach_callB most plain fun w s₀ z mg mb fa o pm cd doc a vs ns G Y ho hd hcd at_ list areInts many bits gens => ?_
  obtain ⟨fd, cs, sp, t1, t2, t3, b, want, fn⟩ := F w mg fa _ Y (inK w _ Y) G.T.g at_
  exact end_call (inK w _ Y) G.T.g G.T.b G.T.builtins G.T.nolimit gens t1 t2 t3 G.T.bmain list areInts
    (Nat.le_trans many small) room fn b (fun H h1 h2 => want H a ns many bits h1 h2) fun _ _ _ c => c.elim
end HG
set_option maxHeartbeats 2000000
namespace HG
open PySem PySem.Spec PyProof.Rows L2

/-! ## what stays -/
/-- but for the addresses ex, and for the tables of code objects -/
structure KeepW (ex : List Addr) (H H' : Hp) : Prop where
  all : ∀ a o, H a = some o → a ∉ ex → (∀ ps, o ≠ .tbl ps) → H' a = some o
  tup : ∀ a xs, H a = some (.tup xs) → H' a = some (.tup xs)
  frz : ∀ a o u, H a = some (.frz o u) → H' a = some (.frz o u)
  dom : ∀ a o, H a = some o → (∀ ps, o ≠ .tbl ps) → ∃ o', H' a = some o' ∧ ∀ ps, o' ≠ .tbl ps
/-- the tables too -/
structure Keep (ex : List Addr) (H H' : Hp) : Prop extends KeepW ex H H' where
  tbl : ∀ a ps, H a = some (.tbl ps) → H' a = some (.tbl ps)
instance {ex : List Addr} {H H' : Hp} : Coe (Keep ex H H') (KeepW ex H H') := ⟨fun k => k.toKeepW⟩
theorem KeepW.refl {ex : List Addr} {H : Hp} : KeepW ex H H := ⟨fun _ _ h _ _ => h, fun _ _ h => h, fun _ _ _ h => h, fun _ o h t => ⟨o, h, t⟩⟩
theorem Keep.refl {ex : List Addr} {H : Hp} : Keep ex H H := ⟨KeepW.refl, fun _ _ h => h⟩
theorem KeepW.trans {ex : List Addr} {H H1 H2 : Hp} (a : KeepW ex H H1) (b : KeepW ex H1 H2) : KeepW ex H H2 :=
  ⟨fun x o h n t => b.all x o (a.all x o h n t) n t, fun x o h => b.tup x o (a.tup x o h), fun x o u h => b.frz x o u (a.frz x o u h),
   fun x o h t => by
    obtain ⟨o', h', t'⟩ := a.dom x o h t
    exact b.dom x o' h' t'⟩
theorem Keep.trans {ex : List Addr} {H H1 H2 : Hp} (a : Keep ex H H1) (b : Keep ex H1 H2) : Keep ex H H2 :=
  ⟨a.toKeepW.trans b.toKeepW, fun x ps h => b.tbl x ps (a.tbl x ps h)⟩
theorem KeepW.more {ex ex' : List Addr} {H H' : Hp} (a : KeepW ex H H') (h : ∀ x ∈ ex, x ∈ ex') : KeepW ex' H H' :=
  ⟨fun x o e n t => a.all x o e (fun m => n (h x m)) t, a.tup, a.frz, a.dom⟩
theorem Keep.more {ex ex' : List Addr} {H H' : Hp} (a : Keep ex H H') (h : ∀ x ∈ ex, x ∈ ex') : Keep ex' H H' := ⟨a.toKeepW.more h, a.tbl⟩
theorem KeepW.nil {ex : List Addr} {H H' : Hp} (a : KeepW [] H H') : KeepW ex H H' := a.more fun _ h => nomatch h
theorem Keep.nil {ex : List Addr} {H H' : Hp} (a : Keep [] H H') : Keep ex H H' := a.more fun _ h => nomatch h
theorem KeepW.get {ex : List Addr} {H H' : Hp} {a : Addr} {o : HO} (k : KeepW ex H H') (e : H a = some o) (n : a ∉ ex)
    (t : ∀ ps, o ≠ .tbl ps := by (intro _ z; cases z)) : H' a = some o := k.all a o e n t
/-- an object that wasn't there at first may change -/
theorem KeepW.mut {ex : List Addr} {H H' : Hp} {p : Addr} {o : HO} (k : KeepW ex H H') (h : Fr0 H p) : KeepW ex H (upd H' p o) := by
  have ne : ∀ a u, H a = some u → (∀ ps, u ≠ .tbl ps) → a ≠ p := fun a u e t q => by
    subst q
    obtain ⟨ps, z⟩ := h u e
    exact t ps z
  refine ⟨fun a u e n t => ?_, fun a xs e => ?_, fun a ob u e => ?_, fun a u e t => ?_⟩
  · rw [upd_ne (ne a u e t)]
    exact k.all a u e n t
  · rw [upd_ne (ne a _ e (fun _ z => nomatch z))]
    exact k.tup a xs e
  · rw [upd_ne (ne a _ e (fun _ z => nomatch z))]
    exact k.frz a ob u e
  · rw [upd_ne (ne a u e t)]
    exact k.dom a u e t
theorem Keep.mut {ex : List Addr} {H H' : Hp} {p : Addr} {o : HO} (k : Keep ex H H') (h : H p = none) : Keep ex H (upd H' p o) := by
  refine ⟨k.toKeepW.mut (fr0_none h), fun a ps e => ?_⟩
  rw [upd_ne (ne_of_none e h)]
  exact k.tbl a ps e
theorem Keep.new {ex : List Addr} {H : Hp} {p : Addr} {o : HO} (h : H p = none) : Keep ex H (upd H p o) := Keep.refl.mut h
theorem Keep.ext {ex : List Addr} {H H' : Hp} (h : ∀ a o, H a = some o → H' a = some o) : Keep ex H H' :=
  ⟨⟨fun a o e _ _ => h a o e, fun a o e => h a _ e, fun a o u e => h a _ e, fun a o e t => ⟨o, h a o e, t⟩⟩, fun a ps e => h a _ e⟩
/-- the object at p, no tuple and no table, changes -/
theorem Keep.chg {ex : List Addr} {H : Hp} {p : Addr} {o u : HO} (h : H p = some u) (hp : p ∈ ex)
    (nt : ∀ xs, u ≠ .tup xs) (nf : ∀ o v, u ≠ .frz o v) (no : ∀ ps, o ≠ .tbl ps := by (intro _ z; cases z))
    (nu : ∀ ps, u ≠ .tbl ps := by (intro _ z; cases z)) : Keep ex H (upd H p o) := by
  refine ⟨⟨fun a v e n _ => ?_, fun a xs e => ?_, fun a ob v e => ?_, fun a v e t => ?_⟩, fun a ps e => ?_⟩
  · rw [upd_ne (fun q => n (by rw [q]; exact hp))]
    exact e
  · rw [upd_ne (fun q => nt xs (by rw [q, h] at e; exact Option.some.inj e))]
    exact e
  · rw [upd_ne (fun q => nf ob v (by rw [q, h] at e; exact Option.some.inj e))]
    exact e
  · by_cases q : a = p
    · rw [q, upd_same]
      exact ⟨_, rfl, no⟩
    · rw [upd_ne q]
      exact ⟨_, e, t⟩
  · rw [upd_ne (fun q => nu ps (by rw [q, h] at e; exact Option.some.inj e))]
    exact e
theorem KeepW.none {ex : List Addr} {H H' : Hp} {a : Addr} (k : KeepW ex H H') (h : H' a = none) : Fr0 H a := fun o e => by
  by_cases t : ∃ ps, o = .tbl ps
  · exact t
  · obtain ⟨o', e', _⟩ := k.dom a o e (fun ps z => t ⟨ps, z⟩)
    rw [h] at e'
    cases e'
theorem Keep.none {ex : List Addr} {H H' : Hp} {a : Addr} (k : Keep ex H H') (h : H' a = none) : H a = none := by
  cases q : H a with
  | none => rfl
  | some o =>
    obtain ⟨ps, rfl⟩ := k.toKeepW.none h o q
    rw [k.tbl a ps q] at h
    cases h
theorem sqT_keep {K : PySem.W.Frag} {ex : List Addr} {H H' : Hp} {a : Addr} {xs : List V} (k : KeepW ex H H') (h : SqT K H a xs) : SqT K H' a xs := by
  rcases h with (h | ⟨o, h⟩) | h
  · exact .inl (.inl (k.tup _ _ h))
  · exact .inl (.inr ⟨o, k.frz _ _ _ h⟩)
  · exact .inr h
theorem sqL_keep {K : PySem.W.Frag} {ex : List Addr} {H H' : Hp} {a : Addr} {xs : List V} (k : KeepW ex H H') (n : a ∉ ex) (h : SqL K H a xs) : SqL K H' a xs := by
  rcases h with (h | ⟨o, h⟩) | h
  · exact .inl (.inl (k.get h n))
  · exact .inl (.inr ⟨o, k.frz _ _ _ h⟩)
  · exact .inr h

/-! ## pairs of ints -/
def Pr (K : PySem.W.Frag) (H : Hp) (v : V) (a b : Int) : Prop := ∃ p, v = .ref p ∧ SqT K H p [.int a, .int b]
theorem Pr.keep {K : PySem.W.Frag} {ex : List Addr} {H H' : Hp} {v : V} {a b : Int} (k : KeepW ex H H') (h : Pr K H v a b) : Pr K H' v a b := by
  obtain ⟨p, e, q⟩ := h
  exact ⟨p, e, sqT_keep k q⟩
theorem Pr.new {K : PySem.W.Frag} {H : Hp} {p : Addr} {a b : Int} : Pr K (upd H p (.tup [.int a, .int b])) (.ref p) a b :=
  ⟨p, rfl, .inl (.inl upd_same)⟩

/-! ## defs that are called -/
structure Callee (P : Program) (w : World) (K : PySem.W.Frag) (mg : Str → Option Value) (base : Heap) (CX : CXT)
    (k : Nat) (x : Str) (ps : List Str) (sp : Sp) : Prop where
  ex : ∃ (f : Addr) (fd : FuncData), FnOk P w K mg base CX k f fd ps sp ∧ mg x = some (.ref f) ∧
    PySem.W.keepIn K (.ref f) = true ∧ Binds K fd ps [] ∧ ∃ oc od osl, K.lookup f = some ⟨oc, od, .func fd, osl⟩
structure CalleeP (P : Program) (w : World) (K : PySem.W.Frag) (mg : Str → Option Value) (base : Heap) (CX : CXT)
    (k : Nat) (x : Str) (ps : List Str) (sp : Sp) : Prop where
  ex : ∃ (f : Addr) (fd : FuncData), FnP P w K mg base CX k f fd ps sp ∧ mg x = some (.ref f) ∧
    PySem.W.keepIn K (.ref f) = true ∧ Binds K fd ps [] ∧ ∃ oc od osl, K.lookup f = some ⟨oc, od, .func fd, osl⟩
theorem fun_at {K : PySem.W.Frag} {x q : Str} {st : Stmt} {f : Addr} {fd : FuncData} (F : Fun K x q st f fd) :
    ∃ oc od osl, K.lookup f = some ⟨oc, od, .func fd, osl⟩ := by
  obtain ⟨oc, od, _, _, _, _, _, _, osl, _, lk, _⟩ := F.ex
  exact ⟨oc, od, osl, lk⟩
/-- a def of the text where the module's name x leads to it -/
structure Def (K : PySem.W.Frag) (mg : Str → Option Value) (x : Str) (st : Stmt) (ps : List Str) : Prop where
  ex : ∃ (f : Addr) (fd : FuncData), Fun K x x st f fd ∧ mg x = some (.ref f) ∧ Binds K fd ps []
def tCl (sp : Sp) (E : XK) (t : TA) : TE := fun σ H Q => t σ H fun vs H1 => sp vs H1 Q E
section
variable {X : Cx} {CX : CXT} {k n : Nat} {ps : List Str} {sp : Sp} {E : XK} {x : Str} {p pos : Pos} {e : Expr}
  {es : List Expr} {t : TA}
theorem pe_cE (C : Callee X.prog X.w X.K X.mg X.base CX k x ps sp) (room : Room n X.A) (lets : Passes CX X E)
    (args : PA X (e :: es) t) (hk : k ≤ n := by decide) (glob : Gl X x := by rfl)
    (hdb : (x == ("__debug__" : Str)) = false := by decide)
    (he : starEach (e :: es) X.env = (false, eval e X.env) :: starEach es X.env := by rfl)
    (hpl : (backTo pos (starEach es X.env)).any (·.1) = false := by rfl) :
    PE X (.Call (.Name x p) (e :: es) [] pos) (tCl sp E t) := by
  obtain ⟨f, fd, F, m, kp, b, _⟩ := C.ex
  have h := pe_call (p := p) (pos := pos) F (room.mono hk) glob m kp b .nil lets args hdb he hpl
  have q : tCall sp [] E t = tCl sp E t := by
    funext σ H Q
    show t σ H (fun vs H1 => sp (vs ++ []) H1 Q E) = t σ H fun vs H1 => sp vs H1 Q E
    congr 1
    funext vs H1
    rw [List.append_nil]
  rw [← q]
  exact h
theorem pe_c (C : Callee X.prog X.w X.K X.mg X.base CX0 k x ps sp) (room : Room n X.A) (args : PA X (e :: es) t)
    (hk : k ≤ n := by decide) (glob : Gl X x := by rfl)
    (hdb : (x == ("__debug__" : Str)) = false := by decide)
    (he : starEach (e :: es) X.env = (false, eval e X.env) :: starEach es X.env := by rfl)
    (hpl : (backTo pos (starEach es X.env)).any (·.1) = false := by rfl) :
    PE X (.Call (.Name x p) (e :: es) [] pos) (tCl sp E0 t) := pe_cE C room pass0 args hk glob hdb he hpl
/-- a def that may raise, called where it doesn't -/
theorem pe_cx (C : Callee X.prog X.w X.K X.mg X.base (L2.CX X.prog X.w) k x ps sp) (room : Room n X.A) (args : PA X (e :: es) t)
    (hk : k ≤ n := by decide) (glob : Gl X x := by rfl)
    (hdb : (x == ("__debug__" : Str)) = false := by decide)
    (he : starEach (e :: es) X.env = (false, eval e X.env) :: starEach es X.env := by rfl)
    (hpl : (backTo pos (starEach es X.env)).any (·.1) = false := by rfl) :
    PE X (.Call (.Name x p) (e :: es) [] pos) (tCl sp E0 t) := pe_cE C room passL args hk glob hdb he hpl
end
section
variable {P : Program} {w : World} {K : PySem.W.Frag} {mg : Str → Option Value} {base : Heap}
theorem Def.ok {x : Str} {st : Stmt} {N ps : List Str} {k : Nat} {sp : Sp} (D : Def K mg x st ps) (S : FnScope N ps (defScope st))
    (len : ∀ vs H Q E, sp vs H Q E → vs.length = ps.length)
    (body : ∀ (f : Addr) (cdv : Value) (A : Around) (outer : List Env) (s : Shared) (H : Hp) (vs : List V) (Q : VK) (E : XK),
      Room k (A.deeper (envOfC x (defScope st) s.heap.objs.size f cdv)) → sp vs H Q E →
      ∃ t, PSs (cxOf CX0 P w K mg base N x (defScope st) f cdv A outer s H E).nox (defBody st) t ∧
        t { nx := fun _ H' => Q .non H', rt := Q } (start N vs) H) :
    Callee P w K mg base CX0 (k + 1) x ps sp := by
  obtain ⟨f, fd, F, m, b⟩ := D.ex
  exact ⟨f, fd, F.ok S len fun cdv A outer s H vs Q E hr h => body f cdv A outer s H vs Q E hr h, m, F.kp, b, fun_at F⟩
theorem Def.okX {x : Str} {st : Stmt} {N ps : List Str} {k : Nat} {sp : Sp} (D : Def K mg x st ps) (S : FnScope N ps (defScope st))
    (len : ∀ vs H Q E, sp vs H Q E → vs.length = ps.length)
    (body : ∀ (f : Addr) (cdv : Value) (A : Around) (outer : List Env) (s : Shared) (H : Hp) (vs : List V) (Q : VK) (E : XK),
      Room k (A.deeper (envOfC x (defScope st) s.heap.objs.size f cdv)) → sp vs H Q E →
      ∃ t, PSs (cxOf (L2.CX P w) P w K mg base N x (defScope st) f cdv A outer s H E) (defBody st) t ∧
        t { nx := fun _ H' => Q .non H', rt := Q } (start N vs) H) :
    Callee P w K mg base (L2.CX P w) (k + 1) x ps sp := by
  obtain ⟨f, fd, F, m, b⟩ := D.ex
  exact ⟨f, fd, F.okX S len fun cdv A outer s H vs Q E hr h => body f cdv A outer s H vs Q E hr h, m, F.kp, b, fun_at F⟩
theorem Def.okP {x : Str} {st : Stmt} {N ps : List Str} {k : Nat} {sp : Sp} (D : Def K mg x st ps) (S : FnScope N ps (defScope st))
    (len : ∀ vs H Q E, sp vs H Q E → vs.length = ps.length)
    (body : ∀ (f : Addr) (cdv : Value) (A : Around) (outer : List Env) (s : Shared) (H : Hp) (vs : List V) (Q : VK) (E : XK),
      NoG (A.deeper (envOfC x (defScope st) s.heap.objs.size f cdv)) →
      Room k (A.deeper (envOfC x (defScope st) s.heap.objs.size f cdv)) → sp vs H Q E →
      ∃ t, PSs (cxOf CX0 P w K mg base N x (defScope st) f cdv A outer s H E).nox (defBody st) t ∧
        t { nx := fun _ H' => Q .non H', rt := Q } (start N vs) H) :
    CalleeP P w K mg base CX0 (k + 1) x ps sp := by
  obtain ⟨f, fd, F, m, b⟩ := D.ex
  exact ⟨f, fd, FnP.ofFun F S len fun cdv A outer s H vs Q E ng hr h => body f cdv A outer s H vs Q E ng hr h, m, F.kp, b, fun_at F⟩
end
end HG
set_option maxHeartbeats 2000000
namespace HG
open PySem PySem.Spec PyProof.Rows L2
/-- an own error class over ValueError, with no more than a text -/
structure ErrC (K : PySem.W.Frag) (mg : Str → Option Value) (x : Str) (C : Addr) : Prop where
  at_ : mg x = some (.ref C)
  exc : PySem.W.excIn K C [.type "ValueError", .type "Exception", .type "BaseException", .type "object"] "ValueError.__new__" = true
  keep : PySem.W.keepIn K (.ref C) = true
  sub : PySem.W.subIn K (.ref C) (.type "BaseException") = some true
  ty : PySem.W.typeIn K (.ref C) = some (.type "type")
theorem pmk_err {X : Cx} {x m : Str} {C : Addr} {j : Nat} {p p2 pos : Pos} (c : ErrC X.K X.mg x C) (hg : Gl X x := by rfl)
    (hdb : (x == ("__debug__" : Str)) = false := by decide) :
    PMk X (.Call (.Name x p) [.Constant (.str m) j p2] [] pos) (fun _ H Q => Q (.ref C) none H) :=
  pmk_own PySem.F.excBase_ValueError c.exc c.at_ c.keep (raises_own c.sub c.ty) hg hdb

theorem passE {P : Program} {w : World} {K : PySem.W.Frag} {mg : Str → Option Value} {base : Heap} {N : List Str} {qual : Str} {scope : Scope} {f : Addr} {cd : Value}
    {A : Around} {outer : List Env} {s : Shared} {H : Hp} {E : XK} : Passes (L2.CX P w) (cxOf (L2.CX P w) P w K mg base N qual scope f cd A outer s H E) E :=
  passes_call (W := fun cls d _ H => E cls d H) (takes_of rfl rfl rfl rfl) (fun _ _ _ _ h => h)
end HG
set_option maxHeartbeats 2000000
namespace HG
open PySem PySem.Spec PyProof.Rows L2

/-! ## an own exception whose __init__ calls super().__init__(text) and keeps one thing -/
/-- what stands of such a def: fI its address, C its class, q its full name -/
structure SupI (P : Program) (K : PySem.W.Frag) (q : Str) (body : List Stmt) (scope : Scope) (C fI : Addr) (fd : FuncData) : Prop where
  ex : ∃ (oc : Value) (od : Option Addr) (params : Arguments) (dV kV doc pm : Value) (an : Option Addr) (cda cc : Addr) (ct : Value) (osl : Array (Option Value))
      (c1 : Value) (d1 : Option Addr) (vs : Array Value) (s1 : Array (Option Value)) (file : Str) (tf : Tok) (c2 : Value) (d2 : Option Addr) (s2 : Array (Option Value)) (ar : Arg),
    fd = PySem.W.ksFn "__init__" q params body scope dV kV doc pm an (.ref cda) ct cc ∧ K.lookup fI = some ⟨oc, od, .func fd, osl⟩ ∧ PySem.W.codeIn K (.ref cda) q = true
    ∧ K.lookup cda = some ⟨c1, d1, .fields vs, s1⟩ ∧ vs[2]? = some (.str file tf) ∧ ((P.main.file : Str) == file) = true
    ∧ K.lookup cc = some ⟨c2, d2, .cell (some (.ref C)), s2⟩ ∧ (params.posonlyargs ++ params.args).head? = some ar ∧ ar.arg = "self"
  any : PySem.W.nsIn K cStatics "thirdparty.any" = some none
  top : (P.main.scope.names.lookup ("super" : Str)).isSome = false
  sup : PySem.W.ks_superIn K C C "__init__" = some (some (.builtin "ValueError.__init__"))
  is : PySem.W.mroIn K C (.ref C) = some true
  ve : PySem.W.subIn K (.ref C) (.type "ValueError") = some true

/-- the context of such a def -/
def cxS (CX : CXT) (P : Program) (w : World) (K : PySem.W.Frag) (mg : Str → Option Value) (base : Heap) (N : List Str) (qual : Str) (scope : Scope) (f : Addr) (cd : Value) (cc : Addr) (A : Around) (outer : List Env) (s : Shared) (H : Hp) (E : XK) : Cx where
  prog := P
  w := w
  K := K
  mg := mg
  base := base
  A := A.deeper (PySem.W.ksEnv qual scope s.heap.objs.size f cd cc)
  N := N
  s_0 := s
  H_0 := H
  env := PySem.W.ksEnv qual scope s.heap.objs.size f cd cc
  outer := outer
  stack := PySem.W.ksEnv qual scope s.heap.objs.size f cd cc :: outer
  ex := []
  calm := true
  fn := fun _ => false
  pn := []
  xe := fun e s' => wpAny (model P w) (A.deeper (PySem.W.ksEnv qual scope s.heap.objs.size f cd cc)) (leaving (PySem.W.ksEnv qual scope s.heap.objs.size f cd cc) e) (fun _ s'' => CX outer H s E e s'') (fun e' s'' => CX outer H s E e' s'') s'

section
variable {X : Cx} {pins : List (Addr × Obj)} {σ : L2.St} {H : Hp} {s : Shared} {E : Value → Shared → Prop}
/-- the built-in __init__ bound to the exception that is being made, called -/
theorem call_mw {a C u : Addr} {us : List Value} {Q : Value → Shared → Prop} (T : OexC X.K C) (I : Inv X pins σ H s) (e : H a = some (exo a C none))
    (hu : s.heap.get? u = some (PySem.W.kxs_mw "ValueError.__init__" a)) (hl : us.length ≤ sizeLine) (h : ∀ s', Inv X pins σ H s' → Q .none s') :
    wpAny (model X.prog X.w) X.A (call (.ref u) us) Q E s := by
  obtain ⟨nm, q, N, bs, bm, sn, sub, ab, col, dd, k0, k1, k2, k3, k5, hC, hbm⟩ := T.cls
  obtain ⟨t1, ho⟩ := exo_at I.hok e
  have hC' := I.kIn _ _ hC
  obtain ⟨hp, g, d, t, os⟩ := s
  refine wpAny_call (codeAny_of_tree ?_)
  show wpAny _ X.A.in1 (callAny (.ref u) ⟨us, []⟩) _ _ _
  simp only [callAny]
  refine wpAny_bind (wpAny_load hu ?_)
  simp only [PySem.W.kxs_mw, show (Value.type "method-wrapper" == Value.type "method" || Value.type "method-wrapper" == Value.type "builtin_function_or_method" || Value.type "method-wrapper" == Value.type "method-wrapper") = true by decide, if_true]
  refine PySem.W.KFB.if_so (by decide) ?_
  refine wpAny_bind (PySem.W.check_bound_init F.excBase_ValueError.toExcCallFacts hC' ho rfl ?_)
  refine wpAny_bind (wpAny_pure (wpAny_pure ?_))
  refine ⟨plainId_quiet F.excBase_ValueError.init.plain _, codeAny_builtin F.excBase_ValueError.initEntry ?_⟩
  refine PySem.W.exc_init_tree (cls := .ref C) (t0 := t1) (dv := none) (c2 := .none) (c3 := .none) (b4 := .bool false) ho hl fun h' k hx ht => ?_
  have J := I.write (t' := t) (x := a) (e := a) (o := exo a C none) (by rw [e]; exact True.intro) (.inl rfl) k ⟨_, hx⟩ (exo_ok hx)
  have eu : upd H a (exo a C none) = H := by
    funext b
    by_cases hb : b = a
    · rw [hb, upd_same, e]
    · rw [upd_ne hb]
  rw [eu] at J
  exact h _ J
end

section
variable {P : Program} {w : World} {K : PySem.W.Frag} {mg : Str → Option Value} {base : Heap}
/-- super().__init__(text) as a statement -/
theorem super_stmt {CX : CXT} {N : List Str} {q : Str} {scope : Scope} {fI cda cc a C : Addr} {A : Around} {outer : List Env} {s0 s : Shared} {H0 H : Hp} {E : XK} {σ : L2.St} {pins : List (Addr × Obj)} {body : List Stmt}
    {oc : Value} {od : Option Addr} {fd : FuncData} {osl : Array (Option Value)} {ar : Arg}
    {c1 : Value} {d1 : Option Addr} {vs : Array Value} {s1 : Array (Option Value)} {file : Str} {tf : Tok} {c2 : Value} {d2 : Option Addr} {s2 : Array (Option Value)} {txt : Str} {n3 : Nat} {p0 p1 p2 p3 p4 p5 : Pos}
    {X : Cx} (eX : X = cxS CX P w K mg base N q scope fI (.ref cda) cc A outer s0 H0 E)
    (T : OexC K C) (I : Inv X pins σ H s) (e : H a = some (exo a C none))
    (lk : K.lookup fI = some ⟨oc, od, .func fd, osl⟩) (lcd : K.lookup cda = some ⟨c1, d1, .fields vs, s1⟩) (hvs : vs[2]? = some (.str file tf)) (hfile : ((P.main.file : Str) == file) = true)
    (lcc : K.lookup cc = some ⟨c2, d2, .cell (some (.ref C)), s2⟩) (har : (fd.params.posonlyargs ++ fd.params.args).head? = some ar) (hself : ar.arg = "self")
    (any : PySem.W.nsIn K cStatics "thirdparty.any" = some none) (top : (P.main.scope.names.lookup ("super" : Str)).isSome = false)
    (sup : PySem.W.ks_superIn K C C "__init__" = some (some (.builtin "ValueError.__init__"))) (is : PySem.W.mroIn K C (.ref C) = some true) (ve : PySem.W.subIn K (.ref C) (.type "ValueError") = some true)
    (kind : scope.kind = .function) (hs : scope.names.lookup ("super" : Str) = some .globalImplicit) (hc : scope.names.lookup ("__class__" : Str) = some .free) (hl : scope.names.lookup ("self" : Str) = some .local)
    (mS : mg "super" = none) (n0 : N[0]? = some ("self" : Str)) (v0 : σ[0]? = some (some (.ref a)))
    (hsw : swapsWith (.Call (.Attribute (.Call (.Name "super" p0) [] [] p1) "__init__" p2) [.Constant (.str txt) n3 p3] [] p4) none p5.line X.env = pure false) (hi : interactive X.env = false) {pl : Sem Bool}
    (he : eval (.Call (.Attribute (.Call (.Name "super" p0) [] [] p1) "__init__" p2) [.Constant (.str txt) n3 p3] [] p4) X.env = (do
      let ov ← attributeBase (.Call (.Name "super" p0) [] [] p1) "__init__" X.env (eval (.Call (.Name "super" p0) [] [] p1) X.env)
      standAt p2.atName
      let (f, first) ← holding [ov] (getMethod ov "__init__" pl)
      callWith p4 f first (backTo p4 (starEach [.Constant (.str txt) n3 p3] X.env)) [])) :
    PySem.wpAt (model X.prog X.w) X.A (.func body X.env) (exec (.Expr (.Call (.Attribute (.Call (.Name "super" p0) [] [] p1) "__init__" p2) [.Constant (.str txt) n3 p3] [] p4) p5) X.env)
      (fun fl s' => fl = .next ∧ Inv X pins σ H s') X.xe s := by
  subst eX
  have KX := I.kIn
  obtain ⟨nm, qn, Nn, bs, bm, sn, sub, ab, col, dd, k0, k1, k2, k3, k5, hC, hbm⟩ := T.cls
  have hcl : PySem.W.clsIn K C = some { name := nm, bases := bs, mro := .ref C :: bm, ns := Nn, qualname := qn, hasDict := true, slotNames := sn, subclasses := sub, abstract := ab, collection := col, hasDel := false } := by unfold PySem.W.clsIn; rw [hC] <;> rfl
  obtain ⟨t1, ho⟩ := exo_at I.hok e
  refine ks_wpAt_Expr_any ?_ hi hsw
  refine ks_wpAt_MethodCall (pl := pl) ?_ he
  obtain ⟨m, hns, loc⟩ := I.loc
  obtain ⟨u0, r0, look⟩ := loc 0 "self" (.ref a) n0 v0 (.inl hl)
  obtain rfl : u0 = .ref a := r0
  have hm : m "self" = some (.ref a) := by
    rcases look with ⟨_, z⟩ | ⟨z, _⟩
    · exact z
    · rcases z with z | z
      · exact absurd (hl.symm.trans z) (by decide)
      · exact absurd (hl.symm.trans z) (by decide)
  have kf : (cxS CX P w K mg base N q scope fI (.ref cda) cc A outer s0 H0 E).env.scope.kind = .function := kind
  obtain ⟨mb, hb1, hb2⟩ := I.mod.blt
  refine ks_wpAt_super_base (env := PySem.W.ksEnv q scope s0.heap.objs.size fI (.ref cda) cc) hs hc (by decide) rfl (KX _ _ lk) rfl har rfl (KX _ _ lcd) rfl hvs hfile top ?_
  refine PySem.W.ks_loadName_global kind hs (Calls.loadGlobal_builtin (env := PySem.W.ksEnv q scope s0.heap.objs.size fI (.ref cda) cc) (I.mod.glob.keeps I.bk) mS (hb1.keeps I.bk) ((hb2 _ (by decide)).trans (PyProof.Rows.Boot.«super»)) ⟨rfl, ?_⟩)
  refine wpAny_loadName_free kind hc rfl ⟨_, KX _ _ lcc, rfl⟩ ?_
  rw [hself]
  refine wpAny_loadName_local kind hl hns hm ?_
  obtain ⟨hh, g, d, t, os⟩ := s
  refine ks_wpAny_isType_cls (KX _ _ hC) rfl ⟨rfl, ?_⟩
  refine ks_wpAny_call_super (KX _ _ hC) rfl ho rfl (fun c z => nomatch z) (PySem.W.looks_mroIn KX is) (fun h' es k => ?_)
  have I1 := I.kept (t' := t) (h' := h') k
  have ho1 := k _ _ ho
  have Ia : PySem.W.InstAt h' a { cls := .ref C, dict := none, data := .fields #[.ref t1, .none, .none, .none, .bool false, .none] } C none := ⟨ho1, rfl, rfl, trivial⟩
  have hn : PySem.W.Looks (model P w) h' (isInstance (.ref a) (.type "ValueError")) true := Ia.type.andThen (PySem.W.looks_subIn I1.kIn ve)
  have sup' := sup
  unfold PySem.W.ks_superIn at sup'
  rw [hcl] at sup'
  refine PySem.W.kxs_getMethod PySem.W.kxs_ValueError es (PySem.W.looks_opaque I1.kIn any) (l₀ := .ref C :: bm) ((PySem.W.looks_clsIn I1.kIn hcl).andThen .now) rfl I1.kIn sup' hn (PySem.W.ks_ne I1.kIn Ia hcl) (by decide) ?_
  have k2 : ∀ b u, h'.get? b = some u → (h'.push (PySem.W.kxs_mw "ValueError.__init__" a)).get? b = some u := fun b u z => Heap.get?_push_of_some _ z
  have I2 := I1.kept (t' := t + 1) (h' := h'.push (PySem.W.kxs_mw "ValueError.__init__" a)) k2
  have hu : (h'.push (PySem.W.kxs_mw "ValueError.__init__" a)).get? h'.objs.size = some (PySem.W.kxs_mw "ValueError.__init__" a) := Heap.get?_push_at rfl rfl
  refine PySem.W.kxs_callWith (i := "ValueError.__init__") (x := a) rfl ?_
  refine Calls.evalArgs_plain (x := eval (.Constant (.str txt) n3 p3) _) (rest := []) ?_
  refine Calls.spliced_cons (Calls.Constant_str (Calls.spliced_nil ⟨hu, ?_⟩))
  refine call_mw T (I2.tok _) e hu (by rw [sizeLine_eq]; simp) fun s' J => ⟨rfl, J⟩
/-- a def whose body is super().__init__(text), self.f = p -/
def spS (C : Addr) (f : Str) : Sp := fun vs H Q _ => ∃ (a : Addr) (v : V), vs = [.ref a, v] ∧ H a = some (exo a C none) ∧ ∀ dx, H dx = none → dx ≠ a → Q .non (upd (upd H dx (exd dx [(f, v)])) a (exo a C (some dx)))
/-- the look at the names of its scope -/
structure SupSc (scope : Scope) (p : Str) : Prop where
  kind : scope.kind = .function
  co : scope.isCoroutine = false
  gen : scope.isGenerator = false
  nocell : ∀ x ∈ scope.names, x.2 ≠ .cell
  free : ∀ x ∈ scope.names, x.2 = .free → x.1 = "__class__"
  hs : scope.names.lookup ("super" : Str) = some .globalImplicit
  hc : scope.names.lookup ("__class__" : Str) = some .free
  hl : scope.names.lookup ("self" : Str) = some .local
  hp : scope.names.lookup p = some .local
  ne : p ≠ ("self" : Str)
theorem fn_supS {CX : CXT} {q p f : Str} {body : List Stmt} {scope : Scope} {C fI : Addr} {fd : FuncData} {k : Nat} {txt : Str} {n3 : Nat} {p0 p1 p2 p3 p4 p5 p6 p7 p8 p9 : Pos}
    (D : SupI P K q body scope C fI fd) (T : OexC K C) (Sc : SupSc scope p) (mS : mg "super" = none) (hf : PySem.W.findIn K (.ref C) f = some none)
    (hb : body = [.Expr (.Call (.Attribute (.Call (.Name "super" p0) [] [] p1) "__init__" p2) [.Constant (.str txt) n3 p3] [] p4) p5, .Assign [.Attribute (.Name "self" p6) f p7] (.Name p p8) p9])
    (hd1 : (p == ("__debug__" : Str)) = false) (hd2 : (p == ("__classdict__" : Str)) = false)
    (hsw : ∀ cdv cc L, swapsWith (.Call (.Attribute (.Call (.Name "super" p0) [] [] p1) "__init__" p2) [.Constant (.str txt) n3 p3] [] p4) none p5.line (PySem.W.ksEnv q scope L fI cdv cc) = pure false)
    (hsw2 : ∀ cdv cc L, swapsWith (.Name p p8) (some (.Attribute (.Name "self" p6) f p7)) p9.line (PySem.W.ksEnv q scope L fI cdv cc) = pure false)
    (hi : ∀ cdv cc L, interactive (PySem.W.ksEnv q scope L fI cdv cc) = false)
    {pl : Sem Bool}
    (he : ∀ cdv cc L, eval (.Call (.Attribute (.Call (.Name "super" p0) [] [] p1) "__init__" p2) [.Constant (.str txt) n3 p3] [] p4) (PySem.W.ksEnv q scope L fI cdv cc) = (do
      let ov ← attributeBase (.Call (.Name "super" p0) [] [] p1) "__init__" (PySem.W.ksEnv q scope L fI cdv cc) (eval (.Call (.Name "super" p0) [] [] p1) (PySem.W.ksEnv q scope L fI cdv cc))
      standAt p2.atName
      let (f, first) ← holding [ov] (getMethod ov "__init__" pl)
      callWith p4 f first (backTo p4 (starEach [.Constant (.str txt) n3 p3] (PySem.W.ksEnv q scope L fI cdv cc))) [])) :
    FnOk P w K mg base CX (k + 1) fI fd ["self", p] (spS C f) := by
  obtain ⟨oc, od, params, dV, kV, doc, pm, an, cda, cc, ct, osl, c1, d1, vs, s1, file, tf, c2, d2, s2, ar, rfl, lk, hcd, lcd, hvs, hfile, lcc, har, hself⟩ := D.ex
  refine ⟨fun xs H Q E h => by obtain ⟨a, v, rfl, _⟩ := h; rfl, fun A outer s H args us xs Q E hr e0 hbi r hsp => ?_⟩
  obtain ⟨a, v, rfl, hpa, q1⟩ := hsp
  have KX : K.In s.heap := e0.mod.kin.keeps fun b o e => (e0.bs b o e).1
  have lim : s.heap.NoLimit := e0.mod.nolimit.keeps fun b o e => (e0.bs b o e).1
  obtain ⟨u0, u1, rfl, r0, r1⟩ := vals2 r
  obtain rfl : u0 = .ref a := r0
  refine ks_codeAny_call_defAt (binds := [("self", .ref a), (p, u1)]) hr.depth (KX _ _ lk) rfl lim (PySem.W.codeRec_of KX hcd) rfl hbi Sc.nocell (fun y hy => ?_) (fun h0 hns hk => ?_) Sc.co Sc.gen Sc.kind
  · rcases List.mem_cons.mp hy with rfl | hy
    · exact Sc.hl
    · rcases List.mem_cons.mp hy with rfl | hy
      · exact Sc.hp
      · cases hy
  · have I : L2.Inv (cxS CX P w K mg base ["self", p] q scope fI (.ref cda) cc A outer s H E) [] [some (.ref a), some v] H { s with heap := h0, toks := s.toks + 2 } := by
      have cb : base.get? cc = some ⟨c2, d2, .cell (some (.ref C)), s2⟩ := e0.mod.kin _ _ lcc
      have cl : ∀ x c, (cxS CX P w K mg base ["self", p] q scope fI (.ref cda) cc A outer s H E).env.cells.lookup x = some c → x = "__class__" ∧ c = cc := fun x c h => by
        have h' : List.lookup x [(("__class__" : Str), cc)] = some c := h
        by_cases hx : x = "__class__"
        · subst hx
          simp [List.lookup] at h'
          exact ⟨rfl, h'.symm⟩
        · have hx' : (x == ("__class__" : Str)) = false := by simpa using hx
          simp [List.lookup, hx'] at h'
      have nE : ∀ b : Addr, b ∉ (cxS CX P w K mg base ["self", p] q scope fI (.ref cda) cc A outer s H E).ex := fun b z => absurd (show b ∈ ([] : List Addr) from z) (by simp)
      refine ⟨⟨e0.mod, Sc.kind, rfl, rfl, Nat.le_refl _, fun y z c h1 h2 => ?_, fun y hy => ?_, fun y c hf _ => ?_, fun _ => hr.hd, Around.frames_deeper e0.frames, .inr ⟨rfl, rfl⟩, fun b z => absurd z (nE b), e0.bs, e0.bsz, fun b _ _ => nE b, fun b z => absurd z (nE b), e0.funs, e0.frf⟩,
        rfl, e0.bare, Un.kept hk, ⟨_, hns, fun i y v' h1 h2 h3 => ?_⟩, fun y c h => ?_, e0.hok.fresh (Nat.le_refl _), fun y c h => ?_, fun p hp => absurd (show p ∈ ([] : List (Addr × Obj)) from hp) (by simp), e0.hok.kept hk, rfl⟩
      · exact (cl _ _ h1).1.trans (cl _ _ h2).1.symm
      · have hy : scope.names.lookup y = some .cell ∨ scope.names.lookup y = some .free := hy
        rcases hy with hy | hy
        · exact absurd rfl (Sc.nocell _ (PySem.mem_of_lookup hy))
        · obtain rfl : y = "__class__" := Sc.free _ (PySem.mem_of_lookup hy) rfl
          exact ⟨cc, rfl⟩
      · exact absurd hf (by show ¬ (false = true); decide)
      · match i, h1, h2 with
        | 0, h1, h2 =>
          obtain rfl : ("self" : Str) = y := Option.some.inj h1
          obtain rfl : V.ref a = v' := Option.some.inj (Option.some.inj h2)
          refine ⟨.ref a, rfl, .inl ⟨Sc.hl, ?_⟩⟩
          show List.lookup ("self" : Str) [(p, u1), (("self" : Str), Value.ref a)] = _
          have : (("self" : Str) == p) = false := by simpa using Ne.symm Sc.ne
          simp [List.lookup, this]
        | 1, h1, h2 =>
          obtain rfl : p = y := Option.some.inj h1
          obtain rfl : v = v' := Option.some.inj (Option.some.inj h2)
          refine ⟨u1, r1, .inl ⟨Sc.hp, ?_⟩⟩
          show List.lookup p [(p, u1), (("self" : Str), Value.ref a)] = _
          simp [List.lookup]
        | _ + 2, h1, _ => cases h1
      · obtain ⟨rfl, rfl⟩ := cl _ _ h
        exact ⟨_, _, hk _ _ (KX _ _ lcc), rfl⟩
      · obtain ⟨rfl, rfl⟩ := cl _ _ h
        exact (e0.bs _ _ cb).2
    subst hb
    refine ks_wpAt_execs_cons (ks_wpAt_mono (super_stmt (X := cxS CX P w K mg base ["self", p] q scope fI (.ref cda) cc A outer s H E) rfl T I hpa lk lcd hvs hfile lcc har hself D.any D.top D.sup D.is D.ve Sc.kind Sc.hs Sc.hc Sc.hl mS rfl rfl (hsw _ _ _) (hi _ _ _) (pl := pl) (he _ _ _))
      (fun fl s' h => ?_) fun _ _ z => z)
    obtain ⟨rfl, J⟩ := h
    refine wpAt_of_wpAny ?_
    have ht : PSs (cxS CX P w K mg base ["self", p] q scope fI (.ref cda) cc A outer s H E) [.Assign [.Attribute (.Name "self" p6) f p7] (.Name p p8) p9] _ :=
      pss_one (ps_ost (pe_var (i := 0) rfl (.inl Sc.hl)) (pe_var (i := 1) rfl (.inl Sc.hp) hd1 hd2) (hsw2 _ _ _))
    refine wpAny_mono (ht.run [] s' [some (.ref a), some v] H { nx := fun _ H' => Q .non H', rt := Q } J ?_) (fun fl s' hs => ?_) fun e s' hs => hs
    · refine ⟨v, rfl, .ref a, rfl, a, C, rfl, T, hf, .inl ⟨hpa, fun dx n ne => q1 dx n ne⟩⟩
    cases fl with
    | ret u =>
      obtain ⟨v, σ', H', J, rv, q⟩ := hs
      exact ⟨v, H', J.os, J.bare, J.base, J.hok, rv, q⟩
    | next =>
      obtain ⟨σ', H', J, q⟩ := hs
      exact ⟨V.non, H', J.os, J.bare, J.base, J.hok, rfl, q⟩
    | brk =>
      obtain ⟨_, _, _, q⟩ := hs
      exact False.elim q
    | cont =>
      obtain ⟨_, _, _, q⟩ := hs
      exact False.elim q
end

/-- an own exception class that keeps one thing under the name fl -/
structure ErrS (P : Program) (w : World) (K : PySem.W.Frag) (mg : Str → Option Value) (base : Heap) (x p fl : Str) (C : Addr) : Prop where
  ex : ∃ (fI : Addr) (fd : FuncData), FnOk P w K mg base C8.CX0 1 fI fd ["self", p] (spS C fl) ∧ PySem.W.findIn K (.ref C) "__init__" = some (some (.ref fI))
    ∧ PySem.W.typeIn K (.ref fI) = some (.type "function") ∧ Binds K fd ["self", p] []
  own : OexC K C
  at_ : mg x = some (.ref C)
def tS (C : Addr) (fl : Str) (ta : TA) : L2.St → Hp → XK → Prop := fun σ H Q => ta σ H fun vs H1 => ∃ v, vs = [v] ∧ ∀ d H', Keep [] H1 H' → H' d = some (.xd [(fl, v)]) → Q (.ref C) (some d) H'
theorem pmk_s {X : Cx} {x p fl : Str} {C : Addr} {e : Expr} {ta : TA} {pp pos : Pos} (c : ErrS X.prog X.w X.K X.mg X.base x p fl C) (hr : Room 2 X.A) (hg : Gl X x) (ha : PA X [e] ta)
    (mono : ∀ σ H (K1 K2 : List V → Hp → Prop), (∀ vs H', K1 vs H' → K2 vs H') → ta σ H K1 → ta σ H K2)
    (hdb : (x == ("__debug__" : Str)) = false := by decide)
    (he : starEach [e] X.env = (false, eval e X.env) :: starEach [] X.env := by rfl) (hpl : (backTo pos (starEach [] X.env)).any (·.1) = false := by rfl) :
    PMk X (.Call (.Name x pp) [e] [] pos) (tS C fl ta) := by
  obtain ⟨fI, fd, F, iC, tI, b⟩ := c.ex
  intro pins s σ H Q I h
  refine pmk_oex (p := pp) (pos := pos) c.own iC tI F hr b .nil C8.pass0 hg c.at_ ha hdb he hpl pins s σ H Q I ?_
  refine mono _ _ _ _ (fun vs H1 hv => ?_) h
  obtain ⟨v, rfl, q⟩ := hv
  refine ⟨by simp, fun a na => ⟨a, v, rfl, upd_same, fun dx nd ne => ⟨rfl, dx, [(fl, v)], upd_same, ?_, ?_, ?_⟩⟩⟩
  · rw [upd_ne ne, upd_same]
  · rw [upd_ne ne] at nd
    exact nd
  · rw [upd_ne ne] at nd
    refine q dx _ (Keep.ext fun b o hb => ?_) upd_same
    have nb : b ≠ dx := fun z => by rw [z, nd] at hb; cases hb
    have na' : b ≠ a := fun z => by rw [z, na] at hb; cases hb
    rw [upd_ne nb, del_ne na', upd_ne na', upd_ne nb, upd_ne na']
    exact hb
end HG
set_option maxHeartbeats 2000000
namespace HG
open PySem PySem.Spec PyProof.Rows L2
/-- a kept exception of class C at a, with its dict or without -/
structure ExK (K : PySem.W.Frag) (H : Hp) (a C : Addr) (fs : List (Str × V)) : Prop where
  is : ExcC K C
  at_ : (H a = some (Exn (.ref C) none a) ∧ fs = []) ∨ ∃ d, H a = some (Exn (.ref C) (some d) a) ∧ H d = some (.xd fs)
theorem ExK.keep {K : PySem.W.Frag} {ex : List Addr} {H H' : Hp} {a C : Addr} {fs : List (Str × V)} (h : ExK K H a C fs) (k : KeepW ex H H') (n : ∀ b ∈ ex, ∃ o, H b = some o ∧ (∀ φ, o ≠ .ext φ) ∧ ∀ fs, o ≠ .xd fs) : ExK K H' a C fs := by
  have na : ∀ {o}, H a = some (.ext o) → a ∉ ex := fun {o} e m => by
    obtain ⟨u, hu, z, _⟩ := n a m
    rw [e] at hu
    exact z _ (Option.some.inj hu).symm
  refine ⟨h.is, ?_⟩
  rcases h.at_ with ⟨e, r⟩ | ⟨d, e, ed⟩
  · exact .inl ⟨k.get e (na e) (fun _ z => nomatch z), r⟩
  · refine .inr ⟨d, k.get e (na e) (fun _ z => nomatch z), k.get ed (fun m => ?_)⟩
    obtain ⟨u, hu, _, z⟩ := n d m
    rw [ed] at hu
    exact z _ (Option.some.inj hu).symm
section
variable {X : Cx} {pins : List (Addr × Obj)} {σ : L2.St} {H : Hp} {s : Shared}
theorem exk_inst {K : PySem.W.Frag} {a C : Addr} {fs : List (Str × V)} (hok : HOk X.prog X.w H s.heap) (h : ExK K H a C fs) :
    ∃ ob od, PySem.W.InstAt s.heap a ob C od ∧ ((od = none ∧ fs = []) ∨ ∃ o d mA, od = some o ∧ s.heap.Ns1 d mA ∧ s.heap.get? d = some o ∧ ∀ f, RelO (fs.lookup f) (mA f)) := by
  rcases h.at_ with ⟨e, rfl⟩ | ⟨d, e, ed⟩
  · obtain ⟨⟨ob, gs, at_, ⟨z1, z2⟩, f⟩, _, _⟩ := hok a _ e
    obtain ⟨oc, od, oda, osl⟩ := ob
    dsimp only at z1 z2 f
    subst z1 z2 f
    exact ⟨_, none, ⟨at_, rfl, rfl, trivial⟩, .inl ⟨rfl, rfl⟩⟩
  · obtain ⟨⟨ob, gs, at_, ⟨z1, z2⟩, f⟩, _, _⟩ := hok a _ e
    obtain ⟨oc, od, oda, osl⟩ := ob
    dsimp only at z1 z2 f
    subst z1 z2 f
    have hx : ObjOk X.prog X.w H s.heap d (.xd fs) := hok d _ ed
    obtain ⟨mA, hns, hr⟩ := hx
    obtain ⟨o, ho, _⟩ := lookIn_ns hns
    exact ⟨_, some o, ⟨at_, rfl, rfl, ho⟩, .inr ⟨o, d, mA, rfl, hns, ho, hr⟩⟩
/-- isinstance(e, C), e a kept exception -/
def rIsK2 (K : PySem.W.Frag) : List V → Hp → VK → Prop := fun xs H Q =>
  ∃ (a D C : Addr) (fs : List (Str × V)) (b : Bool), xs = [.ref a, .ref C] ∧ ExK K H a D fs ∧ PySem.W.kitOne K (.ref D) (.ref C) = some b ∧ Q (.bl b) H
theorem call_isK2 : CallR X (.builtin "isinstance") (rIsK2 X.K) := by
  intro pins s σ H xs us Q I r h
  obtain ⟨a, D, C, fs, b, rfl, ha, hk, q⟩ := h
  obtain ⟨u1, u2, rfl, r1, r2⟩ := vals2 r
  cases r1
  cases r2
  obtain ⟨ob, od, J, _⟩ := exk_inst I.hok ha
  have cl := ha.is
  refine PySem.W.kia_one (PySem.W.kitx_exc (by obtain ⟨cd, hc, _⟩ := PySem.W.any_some cl.hd; rw [hc]; rfl) cl.hg cl.hk cl.hs cl.ha cl.hn cl.ht cl.hm) I.kIn J hk
    (fun z => nomatch z) fun tk => ?_
  exact ⟨.bl b, H, I.kept (t' := tk) (fun _ _ z => z), rfl, q⟩
/-- e.f, e a kept exception -/
def tXk (K : PySem.W.Frag) (f : Str) (te : TE) : TE := fun σ H Q => te σ H fun x H1 => ∃ (a C : Addr) (fs : List (Str × V)) (v : V), x = .ref a ∧ ExK K H1 a C fs ∧ XfC K C ∧ PySem.W.findIn K (.ref C) f = some none ∧ fs.lookup f = some v ∧ Q v H1
theorem pe_xk {e : Expr} {te : TE} {pos : Pos} {n : Str} (he : PE X e te) (hb : attributeBase e n X.env (eval e X.env) = eval e X.env := by rfl) :
    PE X (.Attribute e n pos) (tXk X.K n te) := by
  refine ⟨fun pins s σ H Q I h => ?_⟩
  refine attr_of hb (thn (he.run pins s σ H _ I h) fun u s1 hh => ?_)
  obtain ⟨x, H1, I1, rx, a, C, fs, v, ex, hk, T, hno, l, q⟩ := hh
  subst ex
  obtain rfl : u = Value.ref a := rx
  obtain ⟨ob, od, J, hd⟩ := exk_inst I1.hok hk
  rcases hd with ⟨_, rfl⟩ | ⟨o, d, mA, rfl, hns, ho, hr⟩
  · cases l
  obtain ⟨od2, ho2, hl⟩ := lookIn_ns hns
  rw [ho] at ho2
  cases ho2
  obtain ⟨u, hu, ru⟩ := RelO.some_of (v := v) (o := mA n) (by rw [← l]; exact hr n)
  exact HandSPX.exc_get I1.kIn J T.ga T.gg T.exC (PySem.W.findObj_own T.hdC hno rfl (by rw [hl, hu])) (handed_of ru) ⟨v, H1, I1.tok _, ru, q⟩
end
end HG
set_option maxHeartbeats 2000000
namespace HG
open PySem PySem.Spec PyProof.Rows L2
/-! ## any values: numbers, pairs -/
def Out (ex : List Addr) (v : V) : Prop := ∀ a, v = .ref a → a ∉ ex
theorem Out.flat {ex : List Addr} {v : V} (h : ∀ a, v ≠ .ref a) : Out ex v := fun a e => absurd e (h a)
theorem Out.less {ex ex' : List Addr} {v : V} (o : Out ex v) (h : ∀ x ∈ ex', x ∈ ex) : Out ex' v := fun a e m => o a e (h a m)
theorem tyX_keep {K : PySem.W.Frag} {ex : List Addr} {H H' : Hp} {v : V} {t : Value} (k : KeepW ex H H') (o : Out ex v)
    (h : TyX K H v t) : TyX K H' v t := by
  cases h with
  | base h =>
    refine .base ?_
    cases h with
    | non => exact .non
    | bl x => exact .bl x
    | int i => exact .int i
    | str x => exact .str x
    | flt x => exact .flt x
    | lst e => exact .lst (k.get e (o _ rfl))
    | frz e => exact .frz (k.frz _ _ _ e)
    | tup e => exact .tup (k.tup _ _ e)
    | dK e => exact .dK (k.get e (o _ rfl))
    | dT e => exact .dT (k.get e (o _ rfl))
    | ins e cl ha hn htk hm => exact .ins (k.get e (o _ rfl)) cl ha hn htk hm
  | byt b => exact .byt b
  | set e => exact .set (k.get e (o _ rfl))
  | kList e c => exact .kList e c
  | kTuple e c => exact .kTuple e c
  | kDict e c => exact .kDict e c
  | fTuple e => exact .fTuple (k.frz _ _ _ e)
  | fDict e => exact .fDict (k.frz _ _ _ e)
theorem tyX_tup {K : PySem.W.Frag} {H : Hp} {a : Addr} {xs : List V} (h : SqT K H a xs) : TyX K H (.ref a) (.type "tuple") := by
  rcases h with (h | ⟨o, h⟩) | h
  · exact .base (.tup h)
  · exact .fTuple h
  · obtain ⟨o, vs, n, e, c, _⟩ := h
    exact .kTuple e c
structure NumB (ex : List Addr) (K : PySem.W.Frag) (H : Hp) (x : V) (b : Bool) : Prop where
  out : Out ex x
  ex : ∃ T b1 b2, TyX K H x (.type T) ∧ kitB T "int" = some b1 ∧ kitB T "bool" = some b2 ∧ b = (b1 && !b2)
theorem NumB.keep {ex ex' : List Addr} {K : PySem.W.Frag} {H H' : Hp} {x : V} {b : Bool} (k : KeepW ex H H') (h : NumB ex K H x b) : NumB ex K H' x b := by
  obtain ⟨o, T, b1, b2, t, e⟩ := h
  exact ⟨o, T, b1, b2, tyX_keep k o t, e⟩
theorem NumB.int {ex : List Addr} {K : PySem.W.Frag} {H : Hp} (i : Int) : NumB ex K H (.int i) true :=
  ⟨.flat (fun _ z => nomatch z), "int", true, false, .base (.int i), by decide +kernel, by decide +kernel, rfl⟩
theorem NumB.bl {ex : List Addr} {K : PySem.W.Frag} {H : Hp} (i : Bool) : NumB ex K H (.bl i) false :=
  ⟨.flat (fun _ z => nomatch z), "bool", true, true, .base (.bl i), by decide +kernel, by decide +kernel, rfl⟩
theorem NumB.non {ex : List Addr} {K : PySem.W.Frag} {H : Hp} : NumB ex K H .non false :=
  ⟨.flat (fun _ z => nomatch z), "NoneType", false, false, .base .non, by decide +kernel, by decide +kernel, rfl⟩
theorem NumB.str {ex : List Addr} {K : PySem.W.Frag} {H : Hp} (s : Str) : NumB ex K H (.str s) false :=
  ⟨.flat (fun _ z => nomatch z), "str", false, false, .base (.str s), by decide +kernel, by decide +kernel, rfl⟩
theorem NumB.tup {ex : List Addr} {K : PySem.W.Frag} {H : Hp} {a : Addr} {xs : List V} (h : SqT K H a xs) (o : a ∉ ex) : NumB ex K H (.ref a) false :=
  ⟨(fun b e => by cases e; exact o), "tuple", false, false, tyX_tup h, by decide +kernel, by decide +kernel, rfl⟩
theorem NumB.lst {ex : List Addr} {K : PySem.W.Frag} {H : Hp} {a : Addr} {xs : List V} (h : H a = some (.lst xs)) (o : a ∉ ex) : NumB ex K H (.ref a) false :=
  ⟨(fun b e => by cases e; exact o), "list", false, false, .base (.lst h), by decide +kernel, by decide +kernel, rfl⟩
theorem NumB.less {ex ex' : List Addr} {K : PySem.W.Frag} {H : Hp} {x : V} {b : Bool} (h : NumB ex K H x b) (i : ∀ x ∈ ex', x ∈ ex) : NumB ex' K H x b :=
  ⟨h.out.less i, h.ex⟩
/-- whether it is a tuple of two numbers -/
inductive PairB (ex : List Addr) (K : PySem.W.Frag) (H : Hp) : V → Bool → Prop where
  | no {v : V} {T : String} (o : Out ex v) (t : TyX K H v (.type T)) (h : kitB T "tuple" = some false) : PairB ex K H v false
  | len {a : Addr} {xs : List V} (h : SqT K H a xs) (n : xs.length ≠ 2) : PairB ex K H (.ref a) false
  | first {a : Addr} {x y : V} (h : SqT K H a [x, y]) (hx : NumB ex K H x false) : PairB ex K H (.ref a) false
  | second {a : Addr} {x y : V} (h : SqT K H a [x, y]) (hx : NumB ex K H x true) (hy : NumB ex K H y false) : PairB ex K H (.ref a) false
  | yes {a : Addr} {i j : Int} (h : SqT K H a [.int i, .int j]) : PairB ex K H (.ref a) true
theorem PairB.keep {ex : List Addr} {K : PySem.W.Frag} {H H' : Hp} {v : V} {b : Bool} (k : KeepW ex H H') (h : PairB ex K H v b) : PairB ex K H' v b := by
  cases h with
  | no o t h => exact .no o (tyX_keep k o t) h
  | len h n => exact .len (sqT_keep k h) n
  | first h hx => exact .first (sqT_keep k h) (hx.keep (ex' := ex) k)
  | second h hx hy => exact .second (sqT_keep k h) (hx.keep (ex' := ex) k) (hy.keep (ex' := ex) k)
  | yes h => exact .yes (sqT_keep k h)
theorem PairB.less {ex ex' : List Addr} {K : PySem.W.Frag} {H : Hp} {v : V} {b : Bool} (h : PairB ex K H v b) (i : ∀ x ∈ ex', x ∈ ex) : PairB ex' K H v b := by
  cases h with
  | no o t h => exact .no (o.less i) t h
  | len h n => exact .len h n
  | first h hx => exact .first h (hx.less i)
  | second h hx hy => exact .second h (hx.less i) (hy.less i)
  | yes h => exact .yes h
theorem Pr.pairB {ex : List Addr} {K : PySem.W.Frag} {H : Hp} {v : V} {a b : Int} (h : Pr K H v a b) : PairB ex K H v true := by
  obtain ⟨p, rfl, q⟩ := h
  exact .yes q
theorem kit_some {K : PySem.W.Frag} {T C : String} {b : Bool} (h : kitB T C = some b) : PySem.W.kitOne K (.type T) (.type C) = some b := kit_ty h
end HG
set_option maxHeartbeats 2000000
namespace HG
open PySem PySem.Spec PyProof.Rows L2
/-! ## slices and sums of tuples, any values by their types -/
theorem cutA {K : PySem.W.Frag} {H : Hp} {a : Addr} {xs : List V} {lo hi : Option Int} {Q : VK} (h : SqT K H a xs)
    (q : ∀ b H', Keep [] H H' → SqT K H' b (cutV xs lo hi) → Q (.ref b) H') : rSlA K (.ref a) lo hi H Q := by
  refine ⟨a, xs, rfl, h, fun ⟨e0, e1⟩ => ?_, fun _ p np => ?_⟩
  · have e : cutV xs lo hi = xs := by
      unfold cutV
      rw [e0, e1]
      simp
    exact q a H Keep.refl (by rw [e]; exact h)
  · exact q p _ (Keep.new np) (.inl (.inl upd_same))
theorem sumA {K : PySem.W.Frag} {H : Hp} {a b : Addr} {xs ys : List V} {Q : VK} (ha : SqT K H a xs) (hb : SqT K H b ys) (hz : xs.length + ys.length ≤ sizeLine)
    (q : ∀ c H', Keep [] H H' → SqT K H' c (xs ++ ys) → Q (.ref c) H') : rCatA K (.ref a) (.ref b) H Q := by
  refine ⟨a, b, xs, ys, rfl, rfl, ha, hb, hz, fun e => ?_, fun _ e => ?_, fun _ _ p np => ?_⟩
  · subst e
    exact q b H Keep.refl hb
  · subst e
    exact q a H Keep.refl (by rw [List.append_nil]; exact ha)
  · exact q p _ (Keep.new np) (.inl (.inl upd_same))
theorem cut_to {xs : List V} {k : Nat} (h : k ≤ xs.length) : cutV xs none (some (k : Int)) = xs.take k := by
  unfold cutV
  rw [HT.sIx_nat]
  show (xs.drop 0).take (min k xs.length - 0) = _
  rw [Nat.min_eq_left h]
  rfl
theorem cut_from {xs : List V} {k : Nat} (h : k ≤ xs.length) : cutV xs (some (k : Int)) none = xs.drop k := by
  unfold cutV
  rw [HT.sIx_nat]
  show (xs.drop (min k xs.length)).take (xs.length - min k xs.length) = _
  rw [Nat.min_eq_left h, List.take_of_length_le (by rw [List.length_drop]; exact Nat.le_refl _)]
/-- a value by its type -/
inductive Any (ex : List Addr) (K : PySem.W.Frag) (H : Hp) : V → String → Prop where
  | of {v : V} {T : String} (o : Out ex v) (t : TyX K H v (.type T)) : Any ex K H v T
  | tup {a : Addr} {xs : List V} (h : SqT K H a xs) : Any ex K H (.ref a) "tuple"
theorem Any.ty {ex : List Addr} {K : PySem.W.Frag} {H : Hp} {v : V} {T : String} (h : Any ex K H v T) : TyX K H v (.type T) := by
  cases h with
  | of o t => exact t
  | tup h => exact tyX_tup h
theorem Any.keep {ex : List Addr} {K : PySem.W.Frag} {H H' : Hp} {v : V} {T : String} (h : Any ex K H v T) (k : KeepW ex H H') : Any ex K H' v T := by
  cases h with
  | of o t => exact .of o (tyX_keep k o t)
  | tup h => exact .tup (sqT_keep k h)
theorem Any.non {ex : List Addr} {K : PySem.W.Frag} {H : Hp} : Any ex K H .non "NoneType" := .of (.flat (fun _ z => nomatch z)) (.base .non)
theorem Any.int {ex : List Addr} {K : PySem.W.Frag} {H : Hp} (i : Int) : Any ex K H (.int i) "int" := .of (.flat (fun _ z => nomatch z)) (.base (.int i))
theorem Any.str {ex : List Addr} {K : PySem.W.Frag} {H : Hp} (z : Str) : Any ex K H (.str z) "str" := .of (.flat (fun _ z => nomatch z)) (.base (.str z))
theorem Any.bl {ex : List Addr} {K : PySem.W.Frag} {H : Hp} (b : Bool) : Any ex K H (.bl b) "bool" := .of (.flat (fun _ z => nomatch z)) (.base (.bl b))
theorem Any.lst {ex : List Addr} {K : PySem.W.Frag} {H : Hp} {a : Addr} {xs : List V} (h : H a = some (.lst xs)) (o : a ∉ ex) : Any ex K H (.ref a) "list" := .of (fun b e => by cases e; exact o) (.base (.lst h))
theorem Any.num {ex : List Addr} {K : PySem.W.Frag} {H : Hp} {v : V} {T : String} (h : Any ex K H v T) {b1 b2 : Bool} (e1 : kitB T "int" = some b1) (e2 : kitB T "bool" = some b2) : NumB [] K H v (b1 && !b2) := ⟨(fun _ _ m => nomatch m), T, b1, b2, h.ty, e1, e2, rfl⟩
end HG
set_option maxHeartbeats 2000000
namespace HG
open PySem PySem.Spec PyProof.Rows L2
/-! ## calls whose arguments are all named -/
/-- how the def binds its named arguments -/
def KwB (x : Str) (st : Stmt) (ps ks : List Str) : Prop :=
  ∀ (kV doc pm : Value) (an : Option Addr) (cdv ct : Value) (ws : List Value), ws.length = ps.length →
    bindArgs (PySem.W.fnOf x x (defArgs st) (defBody st) (defScope st) .none kV doc pm an cdv ct) ⟨[], ks.zip ws⟩ = pure (ps.zip ws.reverse)
theorem kwb1 {x p : Str} {st : Stmt} (h : ∀ (kV doc pm : Value) (an : Option Addr) (cdv ct a : Value),
    bindArgs (PySem.W.fnOf x x (defArgs st) (defBody st) (defScope st) .none kV doc pm an cdv ct) ⟨[], [(p, a)]⟩ = pure [(p, a)]) : KwB x st [p] [p] := by
  intro kV doc pm an cdv ct ws l
  match ws, l with
  | [a], _ => exact h kV doc pm an cdv ct a
theorem kwb2 {x p q : Str} {st : Stmt} (h : ∀ (kV doc pm : Value) (an : Option Addr) (cdv ct a b : Value),
    bindArgs (PySem.W.fnOf x x (defArgs st) (defBody st) (defScope st) .none kV doc pm an cdv ct) ⟨[], [(q, b), (p, a)]⟩ = pure [(p, a), (q, b)]) : KwB x st [p, q] [q, p] := by
  intro kV doc pm an cdv ct ws l
  match ws, l with
  | [b, a], _ => exact h kV doc pm an cdv ct a b
theorem vals_rev : ∀ {vs : List V} {us : List Value}, Vals vs us → Vals vs.reverse us.reverse
  | _, _, .nil => .nil
  | _, _, .cons r t => by
    rw [List.reverse_cons, List.reverse_cons]
    exact (vals_rev t).append (.cons r .nil)
section
variable {X : Cx} {CX : CXT} {k n : Nat} {ps ks : List Str} {sp : Sp} {E : XK} {x : Str} {p pos : Pos} {kws : List Keyword} {tk : TA} {st : Stmt}
def tKw (sp : Sp) (E : XK) (tk : TA) : TE := fun σ H Q => tk σ H fun zs H1 => sp zs.reverse H1 Q E
theorem pe_kwE (C : Callee X.prog X.w X.K X.mg X.base CX k x ps sp) (D : Def X.K X.mg x st ps) (B : KwB x st ps ks) (room : Room n X.A) (lets : Passes CX X E)
    (named : PK X kws tk) (hk : k ≤ n := by decide) (glob : Gl X x := by rfl)
    (hall : (backToKw pos (keywordEach kws X.env)).all (·.1.isSome) = true := by rfl)
    (hks : (backToKw pos (keywordEach kws X.env)).filterMap (·.1) = ks := by rfl)
    (hdb : (x == ("__debug__" : Str)) = false := by decide)
    (hpl : ((backTo pos (starEach [] X.env)).any (·.1) || (backToKw pos (keywordEach kws X.env)).any (·.1.isNone)) = false := by rfl) :
    PE X (.Call (.Name x p) [] kws pos) (tKw sp E tk) := by
  obtain ⟨f, fd, F, m, kp, _, c1, d1, s1, at1⟩ := C.ex
  obtain ⟨f2, fd2, F2, m2, _⟩ := D.ex
  rw [m] at m2
  cases m2
  obtain ⟨c2, d2, kV, doc, pm, an, cdv, ct, s2, same, at2, _⟩ := F2.ex
  rw [at1] at at2
  cases at2
  refine ⟨fun pins s σ H Q I h => ?_⟩
  refine wpAny_Call_Name_kw (ld_glob I glob m ?_ hdb)
  refine PySem.W.callWith_KW0 (h₀ := X.base) I.ok.mod.kin kp hall (thn (named.run pos pins s σ H _ I h) fun ws z ⟨zs, H2, I2, rz, q2⟩ => ⟨I2.kIn, ?_⟩) hpl
  rw [hks]
  have rv := vals_rev rz
  have len : ws.length = ps.length := by
    rw [← rz.length, ← List.length_reverse]
    exact F.len _ _ _ _ q2
  have b : BindsTo z fd ⟨[], ks.zip ws⟩ (ps.zip ws.reverse) := by
    rw [same]
    exact .of_eq (B kV doc pm an cdv ct ws len)
  refine wpAny_call (codeAny_mono (F.run X.A X.stack z H2 ⟨[], ks.zip ws⟩ ws.reverse zs.reverse Q E (room.mono hk) I2.env0 b rv q2) fun r s' hq => ?_)
  match r, hq with
  | .error e, hq => exact lets pins σ H2 z e s' I2 hq
  | .ok (.ret u), hq => exact I2.after hq
  | .ok .next, hq => exact False.elim hq
  | .ok .brk, hq => exact False.elim hq
  | .ok .cont, hq => exact False.elim hq
end
end HG
set_option maxHeartbeats 2000000
namespace HN
open PySem PySem.Spec PyProof.Rows L2
open AutoSeq1 (wpAny_loadPart')
/-! ## enumerate of a tuple -/
def itTup (t : Addr) : Obj := { cls := .type "tuple_iterator", data := .fields #[.ref t, .int 0 0] }
def enNew (it : Addr) : Obj :=
  { cls := .type "enumerate", data := .fields #[.none, .bool false, .ref it, rawInt 0, .none, .none] }
theorem en_new (t : Addr) (xs : Array Value) (n : Nat) (dt : Option Addr) (sl : Array (Option Value)) :
    Meets (Builtin.«enumerate.__new__» ⟨[.type "enumerate", .ref t], []⟩) (fun _ R s =>
      s.heap.get? t = some { cls := .type "tuple", dict := dt, data := .seq xs n, slots := sl } ∧
        R (.ok (.ret (.ref (s.heap.push (itTup t)).objs.size)))
          { s with heap := (s.heap.push (itTup t)).push (enNew s.heap.objs.size) }) :=
  .of_wp fun prog w A R s h => by
    obtain ⟨h0, g0, d0, k0, os0⟩ := s
    obtain ⟨ht, h⟩ := h
    have sub := sub_enumerate
    have isT : Heap.IsTuple (Shared.heap ⟨h0, g0, d0, k0, os0⟩) t xs := ⟨_, ht, rfl, n, rfl⟩
    wp_walk using wpAny_loadPart' ht
    refine wpAny_stack_any fun _ => wpAny_pure ?_
    split
    · rename_i cl _ _ _ _ _
      cases (cl == Value.type "enumerate")
      · wp_walk using wpAny_loadPart' ht, wpAny_pyIter_tuple isT
        exact ⟨_, rfl, h⟩
      · wp_walk using wpAny_loadPart' ht, wpAny_pyIter_tuple isT
        exact ⟨_, rfl, h⟩
    · wp_walk using wpAny_loadPart' ht, wpAny_pyIter_tuple isT
      exact ⟨_, rfl, h⟩
section
variable {prog : Program} {w : World} {A : Around} {E : Value → Shared → Prop} {s : Shared}
theorem en_call {t : Addr} {xs : Array Value} {Q : Value → Shared → Prop} (isT : s.heap.IsTuple t xs)
    (h : ∀ h1, IsEnum h1 (s.heap.objs.size + 1) s.heap.objs.size 0 .none → h1.IsTupleIter s.heap.objs.size t 0 →
      h1.objs.size = s.heap.objs.size + 2 → (∀ b o, s.heap.get? b = some o → h1.get? b = some o) →
      Q (.ref (s.heap.objs.size + 1)) { s with heap := h1 }) :
    wpAny (model prog w) A (call (.type "enumerate") [.ref t]) Q E s := by
  obtain ⟨⟨c, dt, da, sl⟩, ht, hc, n, hd⟩ := isT
  have hc : c = .type "tuple" := hc
  have hd : da = .seq xs n := hd
  subst hc hd
  refine callType_new F.called_enumerate (by decide) (F.typeCall_enumerate_1 _) (F.newCall_enumerate_1 _)
    (fun o => F.args_object_init_2 o _) F.entry_enumerate_new (en_new t xs n dt sl) ⟨ht, ?_⟩
  have one : (s.heap.push (itTup t)).objs.size = s.heap.objs.size + 1 := Heap.size_push ..
  show _ ∧ _
  rw [one]
  have en : IsEnum ((s.heap.push (itTup t)).push (enNew s.heap.objs.size)) (s.heap.objs.size + 1) s.heap.objs.size 0 .none := by
    have q := Heap.get?_push_size (s.heap.push (itTup t)) (o := enNew s.heap.objs.size) rfl
    rw [one] at q
    exact q
  refine ⟨⟨_, en, rfl⟩, h _ en ?_ (by rw [Heap.size_push, one]) fun b o x =>
    Heap.get?_push_of_some _ (Heap.get?_push_of_some _ x)⟩
  exact ⟨_, Heap.get?_push_of_some _ (Heap.get?_push_size _ rfl), rfl, rfl⟩
/-- the next pair: the tuple's next item, the number raised, the pair handed out -/
theorem en_step {e it t : Addr} {i : Nat} {xs : Array Value} {x old : Value} {Q : Value → Shared → Prop}
    (en : IsEnum s.heap e it i old) (ti : s.heap.IsTupleIter it t i) (isT : s.heap.IsTuple t xs) (hx : xs[i]? = some x) (ne : e ≠ it)
    (h : ∀ h1, IsEnumOut h1 e it ((i : Int) + 1) x s.heap.objs.size → h1.IsTupleIter it t (i + 1) →
      h1.get? s.heap.objs.size = some { cls := .type "tuple", data := .seq #[.int i s.toks, x] } →
      h1.objs.size = s.heap.objs.size + 1 → (∀ b o, b ≠ e → b ≠ it → s.heap.get? b = some o → h1.get? b = some o) →
      Q (.ref s.heap.objs.size) { s with heap := h1, toks := s.toks + 1 }) :
    wpAny (model prog w) A (Builtin.«enumerate.__next__» ⟨[.ref e], []⟩)
      (fun r z => ∃ v, r = .done (.ret v) ∧ Q v z) E s := by
  obtain ⟨h0, g0, d0, k0, os0⟩ := s
  show wpAny _ _ (field (.ref e) 2 >>= _) _ _ _
  refine wpAny_bind (wpAny_field en rfl (x := .ref it) rfl (wpAny_bind (RZ.nextOf_tuple_item ti isT hx fun a1 ti1 b1 => ?_)))
  have b1 : Heap.SameBut it h0 a1 := b1
  have en1 : IsEnum a1 e it i old := (b1.2 e ne).trans en
  show wpAny _ _ (field (.ref e) 3 >>= _) _ _ ⟨a1, g0, d0, k0, os0⟩
  refine wpAny_bind (wpAny_field en1 rfl (x := rawInt i) rfl ?_)
  show wpAny _ _ (field (.ref e) 4 >>= _) _ _ ⟨a1, g0, d0, k0, os0⟩
  refine wpAny_bind (wpAny_field en1 rfl (x := .none) rfl ?_)
  show wpAny _ _ (mkInt i >>= _) _ _ ⟨a1, g0, d0, k0, os0⟩
  refine wpAny_bind (wpAny_mkInt ?_)
  show wpAny _ _ (setField (.ref e) 3 (rawInt ((i : Int) + 1)) >>= _) _ _ ⟨a1, g0, d0, k0 + 1, os0⟩
  refine wpAny_bind (wpAny_setField_rec en1 (by simp) fun a2 en2 b2 => ?_)
  have b2 : Heap.SameBut e a1 a2 := b2
  have en2 : IsEnum a2 e it ((i : Int) + 1) old := en2
  show wpAny _ _ (setField (.ref e) 4 .none >>= _) _ _ ⟨a2, g0, d0, k0 + 1, os0⟩
  refine wpAny_bind (wpAny_setField_rec en2 (by simp) fun a3 en3 b3 => ?_)
  have b3 : Heap.SameBut e a2 a3 := b3
  have en3 : IsEnum a3 e it ((i : Int) + 1) old := en3
  show wpAny _ _ (newTuple [.int i k0, x] >>= _) _ _ ⟨a3, g0, d0, k0 + 1, os0⟩
  refine wpAny_bind (wpAny_newTuple ?_)
  have size : a3.objs.size = h0.objs.size := by rw [b3.1, b2.1, b1.1]
  have lt : e < h0.objs.size := Heap.lt_size en
  have facts : ∃ a4, a3.push { cls := .type "tuple", data := .seq #[.int i k0, x] } = a4 ∧ IsEnum a4 e it ((i : Int) + 1) old ∧
      a4.get? h0.objs.size = some { cls := .type "tuple", data := .seq #[.int i k0, x] } ∧ a4.objs.size = h0.objs.size + 1 ∧
      (∀ b o, b ≠ e → b ≠ it → h0.get? b = some o → a4.get? b = some o) ∧ a4.IsTupleIter it t (i + 1) := by
    refine ⟨_, rfl, Heap.get?_push_of_some _ en3, ?_, by rw [Heap.size_push, size], fun b o h1 h2 hb => ?_, ?_⟩
    · rw [← size]
      exact Heap.get?_push_size _ rfl
    · exact Heap.get?_push_of_some _ (b3.extBut b o h1 (b2.extBut b o h1 (b1.extBut b o h2 hb)))
    · obtain ⟨o, ho, r⟩ := (ti1.extBut b2.extBut ne.symm).extBut b3.extBut ne.symm
      exact ⟨o, Heap.get?_push_of_some _ ho, r⟩
  obtain ⟨a4, q4, en4, new4, size4, keep4, ti4⟩ := facts
  rw [q4, size]
  clear q4 en3 b3 en2 b2 en1 b1 ti1 size
  show wpAny _ _ (Builtin.SmallTypes.ownedTupleIsFree (.ref e) >>= _) _ _ ⟨a4, g0, d0, k0 + 1, os0⟩
  refine wpAny_bind ?_
  unfold Builtin.SmallTypes.ownedTupleIsFree
  refine wpAny_bind (wpAny_field en4 rfl (x := .none) rfl (wpAny_pure ?_))
  simp only [if_true]
  refine wpAny_bind (wpAny_rule (wpAny_bind (wpAny_field en4 rfl (x := old) rfl ?_)))
  refine wpAny_bind (wpAny_setField_rec en4 (by simp) fun a5 en5 b5 => ?_)
  have b5 : Heap.SameBut e a4 a5 := b5
  have en5 : IsEnum a5 e it ((i : Int) + 1) x := en5
  show wpAny _ _ (Builtin.SmallTypes.ownedTupleHandOut (.ref e) (.ref h0.objs.size) >>= _) _ _ ⟨a5, g0, d0, k0 + 1, os0⟩
  refine wpAny_bind ?_
  unfold Builtin.SmallTypes.ownedTupleHandOut
  refine wpAny_bind (wpAny_setField_rec en5 (by simp) fun a6 en6 b6 => ?_)
  have b6 : Heap.SameBut e a5 a6 := b6
  have en6 : IsEnumOut a6 e it ((i : Int) + 1) x h0.objs.size := en6
  refine wpAny_setField_rec en6 (by simp) fun a7 en7 b7 => ?_
  have b7 : Heap.SameBut e a6 a7 := b7
  have en7 : IsEnumOut a7 e it ((i : Int) + 1) x h0.objs.size := en7
  have far : h0.objs.size ≠ e := Nat.ne_of_gt lt
  refine wpAny_bind (wpAny_letGo (wpAny_pure ⟨_, rfl, h a7 en7 ?_ ?_ ?_ fun b o h1 h2 hb => ?_⟩))
  · exact ((ti4.extBut b5.extBut ne.symm).extBut b6.extBut ne.symm).extBut b7.extBut ne.symm
  · exact b7.extBut _ _ far (b6.extBut _ _ far (b5.extBut _ _ far new4))
  · rw [b7.1, b6.1, b5.1, size4]
  · exact b7.extBut b o h1 (b6.extBut b o h1 (b5.extBut b o h1 (keep4 b o h1 h2 hb)))
theorem en_next {e it t : Addr} {i : Nat} {xs : Array Value} {x old : Value} {Q : Option Value → Shared → Prop}
    (en : IsEnum s.heap e it i old) (ti : s.heap.IsTupleIter it t i) (isT : s.heap.IsTuple t xs) (hx : xs[i]? = some x) (ne : e ≠ it)
    (h : ∀ h1, IsEnumOut h1 e it ((i : Int) + 1) x s.heap.objs.size → h1.IsTupleIter it t (i + 1) →
      h1.get? s.heap.objs.size = some { cls := .type "tuple", data := .seq #[.int i s.toks, x] } →
      h1.objs.size = s.heap.objs.size + 1 → (∀ b o, b ≠ e → b ≠ it → s.heap.get? b = some o → h1.get? b = some o) →
      Q (some (.ref s.heap.objs.size)) { s with heap := h1, toks := s.toks + 1 }) :
    wpAny (model prog w) A (pyNext (.ref e)) Q E s := by
  have ty : s.TypeIs (.ref e) "enumerate" := ⟨_, en, rfl⟩
  unfold pyNext
  refine wpAny_bind (wpAny_attempt (wpAny_callSpecial?_slot (name := Str.ofString "__next__") ty F.slot_enumerate_next ?_))
  refine wpAny_call_entry F.slot_enumerate_next ty F.entry_enumerate_next ?_ (F.args_enumerate_next_1 _)
  exact en_step en ti isT hx ne fun h1 a b c d k => wpAny_pure (h h1 a b c d k)
theorem en_end {e it t : Addr} {i : Nat} {xs : Array Value} {old : Value} {Q : Option Value → Shared → Prop} (hh : A.handled = none)
    (en : IsEnum s.heap e it i old) (ti : s.heap.IsTupleIter it t i) (isT : s.heap.IsTuple t xs) (hx : xs[i]? = none)
    (h : ∀ h1, Heap.ExtBut it s.heap h1 → Q none { s with heap := h1 }) : wpAny (model prog w) A (pyNext (.ref e)) Q E s := by
  have ty : s.TypeIs (.ref e) "enumerate" := ⟨_, en, rfl⟩
  unfold pyNext
  refine wpAny_bind (wpAny_attempt (wpAny_callSpecial?_slot (name := Str.ofString "__next__") ty F.slot_enumerate_next ?_))
  refine wpAny_call_entry F.slot_enumerate_next ty F.entry_enumerate_next ?_ (F.args_enumerate_next_1 _)
  show wpAny _ _ (field (.ref e) 2 >>= _) _ _ _
  refine wpAny_bind (wpAny_field en rfl (x := .ref it) rfl (wpAny_bind (RZ.nextOf_tuple_end hh ti isT hx fun h1 z k1 q => ?_)))
  obtain ⟨o, ho, hc⟩ := q
  exact wpAny_bind (wpAny_isInstance (T := "StopIteration") (b := true) ⟨o, ho, hc⟩ isSubtype_stop (wpAny_pure (h _ k1)))
end
/-- the tuple's items, each in a new pair behind its place -/
def Itet (K : PySem.W.Frag) (a : Addr) : It where
  go := fun i H => ∃ xs x, SqT K H a xs ∧ xs[i]? = some x
  yld := fun i H v H1 => ∃ p x, v = .ref p ∧ H p = none ∧ H1 = upd H p (.tup [.int (i : Nat), x]) ∧ ∀ xs, SqT K H a xs → xs[i]? = some x
  stop := fun i H => ∃ xs, SqT K H a xs ∧ xs.length ≤ i
/-- the state: the enumeration at e over the iterator at it -/
def Ent (a e it : Addr) (i : Nat) (h : Heap) : Prop := (∃ old, IsEnum h e it ((i : Nat) : Int) old) ∧ h.IsTupleIter it a i ∧ e ≠ it
theorem turn_ent {P : Program} {w : World} {K : PySem.W.Frag} {elts : List Expr} {kk : Nat} {tpos : Pos} (a e it : Addr) :
    Turn P w K (.Tuple elts kk tpos) (Itet K a) [e, it] e (Ent a e it) := by
  have two : ∀ b, b ∈ [e, it] → b = e ∨ b = it := fun b m => by
    rcases List.mem_cons.mp m with r | m
    · exact .inl r
    · rcases List.mem_cons.mp m with r | m
      · exact .inr r
      · cases m
  have me : e ∈ [e, it] := List.mem_cons_self
  have mi : it ∈ [e, it] := List.mem_cons_of_mem _ List.mem_cons_self
  refine ⟨me, fun i h st b m => ?_, fun i h h1 st k => ?_, ?_, ?_, fun A i s Q E st h => ?_⟩
  · obtain ⟨⟨old, en⟩, ⟨o, ho, _, hd⟩, _⟩ := st
    rcases two b m with rfl | rfl
    · exact ⟨_, en, fun v z => nomatch z⟩
    · refine ⟨o, ho, fun v z => ?_⟩
      rw [hd] at z
      cases z
  · obtain ⟨⟨old, en⟩, ti, ne⟩ := st
    exact ⟨⟨old, k e me _ en⟩, ti.at fun o q => k it mi o q, ne⟩
  · intro X eP ew eK calm i pins s σ H E I fp st hg
    subst eP ew eK
    obtain ⟨⟨old, en⟩, ti, ne⟩ := st
    obtain ⟨xs, x, hq, hx⟩ := hg
    obtain ⟨its, vals, isT, _⟩ := I.tuple hq
    obtain ⟨u, hu, ru⟩ := vals.get hx
    have le : e < s.heap.objs.size := Heap.lt_size en
    have li : it < s.heap.objs.size := by
      obtain ⟨_, q, _⟩ := ti
      exact Heap.lt_size q
    refine en_next en ti (show s.heap.IsTuple a its.toArray from isT) (x := u) (by simpa using hu) ne fun h1 out ti1 new sz keep => ?_
    refine ⟨_, rfl, wpAny_letOwnedTupleGo_enum (s := { s with heap := h1, toks := s.toks + 1 }) out fun h2 en2 same => ?_⟩
    have new2 := (same.2 _ (Nat.ne_of_gt le)).trans new
    have ok : ObjOk X.prog X.w (upd H s.heap.objs.size (.tup [.int (i : Nat), x])) h2 s.heap.objs.size (.tup [.int (i : Nat), x]) := by
      refine ⟨by show 2 ≤ sizeLine; decide, [.int i s.toks, u], .cons ⟨_, rfl⟩ (.cons ru .nil), ?_⟩
      exact ⟨_, new2, rfl, _, rfl⟩
    have J : Inv X pins σ (upd H s.heap.objs.size (.tup [.int (i : Nat), x])) { s with heap := h2, toks := s.toks + 1 } := by
      refine I.turnedNew (ch := [e, it]) (fun b o nb q => ?_) fp (Nat.le_refl _) ok
      have nbe : b ≠ e := fun z => nb (by rw [z]; exact me)
      have nbi : b ≠ it := fun z => nb (by rw [z]; exact mi)
      exact (same.2 b nbe).trans (keep b o nbe nbi q)
    refine ⟨.ref s.heap.objs.size, _, J, rfl, ⟨_, x, rfl, I.hok.fresh (Nat.le_refl _), rfl, fun ys hy => ?_⟩, ⟨⟨u, ?_⟩, ?_, ne⟩, fun b m => ?_⟩
    · rw [I.tuple_inj hy hq]
      exact hx
    · rw [show ((i + 1 : Nat) : Int) = (i : Int) + 1 by omega]
      exact en2
    · exact ti1.at fun o q => (same.2 it ne.symm).trans q
    · have lt : b < s.heap.objs.size := by
        rcases two b m with rfl | rfl
        · exact le
        · exact li
      rw [upd_ne (Nat.ne_of_lt lt)]
      exact (fp b m).1
  · intro X eP ew eK calm i pins s σ H E I fp st hg
    subst eP ew eK
    obtain ⟨⟨old, en⟩, ti, ne⟩ := st
    obtain ⟨xs, hq, hx⟩ := hg
    obtain ⟨its, vals, isT, _⟩ := I.tuple hq
    obtain ⟨q0, q1, q2, q3, q4, q5⟩ := fp it mi
    have len := vals.length
    refine en_end (I.ok.hd calm) en ti (show s.heap.IsTuple a its.toArray from isT) (by simp; omega) fun h1 ext => ⟨rfl, ?_⟩
    exact I.turned (t' := s.toks) (fun b o nb q => ext b o nb q) q0 q1 q3 q4 q5
  · obtain ⟨⟨_, en⟩, _⟩ := st
    exact wpAny_pyIter_enum en h
def iEnumT (K : PySem.W.Frag) (ta : TA) : TI := fun σ H R => ta σ H fun vs H1 => ∃ a xs, vs = [.ref a] ∧ SqT K H1 a xs ∧ R (Itet K a) H1
theorem pi_enumT {X : Cx} {e : Expr} {ta : TA} {p pos tpos : Pos} {elts : List Expr} {kk : Nat} (glob : Gl X "enumerate") (free : X.mg "enumerate" = none)
    (args : PA X [e] ta) (hs : starEach [e] X.env = [(false, eval e X.env)] := by rfl) :
    PI X (.Tuple elts kk tpos) (.Call (.Name "enumerate" p) [e] [] pos) (iEnumT X.K ta) := by
  refine ⟨fun pins s σ H R I h => ?_⟩
  refine Call_ (ld_blt I glob free boot_enumerate (PyProof.Rows.callWith_type1 (thn (args.run pos pins s σ H _ I h) fun us z ⟨vs, H1, J, rel, q⟩ => ?_) hs rfl))
  obtain ⟨a, xs, rfl, hq, q⟩ := q
  obtain ⟨u, rfl, ru⟩ := vals1 rel
  cases ru
  obtain ⟨its, _, isT, _⟩ := J.tuple hq
  refine en_call (show z.heap.IsTuple a its.toArray from isT) fun h1 en ti sz keep => wpAny_pyIter_enum en ?_
  have J2 : Inv X pins σ H1 { z with heap := h1 } := J.kept (t' := z.toks) keep
  refine ⟨z.heap.objs.size + 1, [z.heap.objs.size + 1, z.heap.objs.size], _, _, H1, rfl, J2, turn_ent a (z.heap.objs.size + 1) z.heap.objs.size, ⟨⟨.none, en⟩, ti, Nat.succ_ne_self _⟩, fun b m => ?_, q⟩
  have ge : z.heap.objs.size ≤ b := by
    rcases List.mem_cons.mp m with rfl | m
    · exact Nat.le_succ _
    · rcases List.mem_cons.mp m with rfl | m
      · exact Nat.le_refl _
      · cases m
  exact J.fpOk ge (J.hok.fresh ge)
theorem walk_ent {K : PySem.W.Frag} {a : Addr} {xs : List V} :
    Walk (Itet K a) xs.length (fun H => SqT K H a xs) (YPair (fun i => some (.int (i : Nat))) (fun i => xs[i]?)) := by
  refine ⟨fun i H lt q => ⟨xs, xs[i], q, by simp [lt]⟩, fun H q => ⟨xs, q, Nat.le_refl _⟩, fun i H v H1 _ q y => ?_⟩
  obtain ⟨p, x, e1, e2, e3, e4⟩ := y
  exact ⟨p, .int (i : Nat), x, e1, e2, e3, rfl, e4 xs q⟩
end HN
set_option maxHeartbeats 2000000
namespace HG
open PySem PySem.Spec PyProof.Rows L2 HN
/-! ## t += u for tuples; enumerate of a list or a tuple -/
theorem tup_noIadd : typeLookup (.type "tuple") (dunderI "add") = pure none := by rw [typeLookup_type, builtinLookup_eq_fast]; kernel_rfl
section
variable {prog : Program} {w : World} {A : Around} {E : Value → Shared → Prop} {s : Shared}
theorem tup_iadd {t b : Addr} {vs ws : List Value} {Q : Value → Shared → Prop} (ht : IsTup s.heap t vs.toArray) (hb : IsTup s.heap b ws.toArray)
    (h0 : vs = [] → Q (.ref b) s) (h1 : vs ≠ [] → ws = [] → Q (.ref t) s) (h2 : vs ≠ [] → ws ≠ [] → Q (.ref s.heap.objs.size) { s with heap := s.heap.push { cls := .type "tuple", data := .seq (vs ++ ws).toArray } })
    (hsz : vs.length + ws.length ≤ sizeLine) : wpAny (model prog w) A (inplaceOp .Add (.ref t) (.ref b)) Q E s := by
  obtain ⟨⟨cls, dd, data, sl⟩, ho, hc, n, hd⟩ := id ht
  obtain ⟨⟨cls2, dd2, data2, sl2⟩, ho2, hc2, n2, hd2⟩ := id hb
  simp only at hc hd hc2 hd2
  subst hc hd hc2 hd2
  have e : vs.toArray ++ ws.toArray = (vs ++ ws).toArray := by simp
  refine wpAny_inplaceOp_concat ⟨_, ho, rfl⟩ ⟨_, ho2, rfl⟩ tup_noIadd noFill_tuple_add seq_tuple_add ?_
  by_cases hv : vs = []
  · exact call_meets F.slot_tuple_add ⟨_, ho, rfl⟩ F.entry_tuple_add (F.args_tuple_add_2 _ _) (tuple_addW0 t b vs.toArray ws.toArray n n2 dd dd2 sl sl2 (by simp [hv])) ⟨ho, ho2, h0 hv⟩
  by_cases hw : ws = []
  · exact call_meets F.slot_tuple_add ⟨_, ho, rfl⟩ F.entry_tuple_add (F.args_tuple_add_2 _ _) (tuple_addW1 t b vs.toArray ws.toArray n n2 dd dd2 sl sl2 (by simpa using hv) (by simp [hw])) ⟨ho, ho2, h1 hv hw⟩
  · refine call_meets F.slot_tuple_add ⟨_, ho, rfl⟩ F.entry_tuple_add (F.args_tuple_add_2 _ _) (tuple_addW2 t b vs.toArray ws.toArray n n2 dd dd2 sl sl2 (by simpa using hv) (by simpa using hw) (by simpa using hsz)) ⟨ho, ho2, ?_⟩
    rw [e]
    exact h2 hv hw
end
theorem ip_catA {X : Cx} : PIp X .Add (rCatA X.K) := by
  intro pins s σ H x y v u Q I rx ry h
  obtain ⟨a, b, xs, ys, rfl, rfl, ha, hb, hz, q0, q1, q2⟩ := h
  cases rx
  cases ry
  obtain ⟨its, r1, p1, _⟩ := I.tuple ha
  obtain ⟨its2, r2, p2, _⟩ := I.tuple hb
  refine tup_iadd p1 p2 (fun z => ⟨.ref b, H, I, rfl, q0 (r1.nil_iff.mp z)⟩) (fun z y => ⟨.ref a, H, I, rfl, q1 (fun w => z (r1.nil_iff.mpr w)) (r2.nil_iff.mp y)⟩) (fun z y => ?_) (by rw [← r1.length, ← r2.length]; exact hz)
  refine ⟨.ref s.heap.objs.size, _, I.laid (t' := s.toks) (o := .tup (xs ++ ys)) (fun b ob q => Heap.get?_push_of_some _ q) (Nat.le_refl _) ?_, rfl, q2 (fun w => z (r1.nil_iff.mpr w)) (fun w => y (r2.nil_iff.mpr w)) _ (I.hok.fresh (Nat.le_refl _))⟩
  exact ⟨by rw [List.length_append]; exact hz, _, r1.append r2, IsTup.new _ _⟩
theorem walk_enl {K : PySem.W.Frag} {a : Addr} {xs : List V} : Walk (Ite K a) xs.length (fun H => SqL K H a xs) (YPair (fun i => some (.int (i : Nat))) (fun i => xs[i]?)) := by
  refine ⟨fun i H lt q => ⟨xs, xs[i], q, by simp [lt]⟩, fun H q => ⟨xs, q, Nat.le_refl _⟩, fun i H v H1 _ q y => ?_⟩
  obtain ⟨p, x, e1, e2, e3, e4⟩ := y
  exact ⟨p, .int (i : Nat), x, e1, e2, e3, rfl, e4 xs q⟩
def iOr (a b : TI) : TI := fun σ H R => a σ H R ∨ b σ H R
theorem pi_or {X : Cx} {tg iter : Expr} {a b : TI} (ha : PI X tg iter a) (hb : PI X tg iter b) : PI X tg iter (iOr a b) :=
  ⟨fun pins s σ H R I h => h.elim (ha.run pins s σ H R I) (hb.run pins s σ H R I)⟩
theorem pi_enumX {X : Cx} {e : Expr} {ta : TA} {p pos tpos : Pos} {elts : List Expr} {kk : Nat} (g : Gl X "enumerate") (m : X.mg "enumerate" = none) (h : PA X [e] ta) (hs : starEach [e] X.env = [(false, eval e X.env)] := by rfl) :
    PI X (.Tuple elts kk tpos) (.Call (.Name "enumerate" p) [e] [] pos) (iOr (iEnum X.K ta) (iEnumT X.K ta)) := pi_or (pi_enum g m h hs) (pi_enumT g m h hs)
/-- a row of things: a list or a tuple -/
def SqX (K : PySem.W.Frag) (H : Hp) (a : Addr) (xs : List V) : Prop := SqL K H a xs ∨ SqT K H a xs
theorem SqX.keep {K : PySem.W.Frag} {ex : List Addr} {H H' : Hp} {a : Addr} {xs : List V} (h : SqX K H a xs) (k : KeepW ex H H') (n : a ∉ ex) : SqX K H' a xs := h.elim (fun h => .inl (sqL_keep k n h)) fun h => .inr (sqT_keep k h)
def WI (J : It) (g : TG) (tb : TS) (D : Ends) (σ : L2.St) (H : Hp) : Prop :=
    ∃ W : Nat → Nat → L2.St → Hp → Prop, (∃ m, W 0 m σ H) ∧ ∀ i m σ H, W i m σ H →
      (J.stop i H ∧ D.nx σ H) ∨ (J.go i H ∧ ∃ N : L2.St → Hp → Prop, (∀ σ' H', N σ' H' → ∃ m', m' < m ∧ W (i + 1) m' σ' H') ∧ ∀ x H', J.yld i H x H' → g x σ H' fun σ2 H2 => tb { D with nx := N, ct := N, bk := D.nx } σ2 H2)
theorem for_itW {J : It} {n : Nat} {G : Hp → Prop} {Y : Nat → Hp → V → Hp → Prop} (w : Walk J n G Y) {g : TG} {tb : TS} {D : Ends} {σ : L2.St} {H : Hp} (Pv : Nat → L2.St → Hp → Prop) (h0 : Pv 0 σ H) (hG : ∀ i σ H, i ≤ n → Pv i σ H → G H)
    (hs : ∀ i x σ H H', i < n → Pv i σ H → Y i H x H' → g x σ H' fun σ2 H2 => tb { D with nx := Pv (i + 1), ct := Pv (i + 1), bk := D.nx } σ2 H2) (hd : ∀ σ H, Pv n σ H → D.nx σ H) : WI J g tb D σ H := for_it w Pv h0 hG hs hd
theorem for_enumV {K : PySem.W.Frag} {g : TG} {tb rest : TS} {D : Ends} {σ : L2.St} {H : Hp} {i : Nat} {a : Addr} {xs : List V} (hσ : σ[i]? = some (some (.ref a))) (h : SqX K H a xs)
    (body : ∀ (J : It) (G : Hp → Prop), Walk J xs.length G (YPair (fun i => some (.int (i : Nat))) (fun i => xs[i]?)) → (∀ ex H', KeepW ex H H' → a ∉ ex → G H') → WI J g tb { D with nx := rest D } σ H) :
    tSeq (tFor (iOr (iEnum K (tCons (tVar i) tNil)) (iEnumT K (tCons (tVar i) tNil))) g tb) rest D σ H := by
  rcases h with h | h
  · exact .inl ⟨_, hσ, a, xs, rfl, h, body _ _ walk_enl fun ex H' k n => sqL_keep k n h⟩
  · exact .inr ⟨_, hσ, a, xs, rfl, h, body _ _ walk_ent fun ex H' k n => sqT_keep k h⟩
theorem for_enumV2 {K : PySem.W.Frag} {g : TG} {tb rest : TS} {D : Ends} {σ : L2.St} {H0 H : Hp} {i : Nat} {a : Addr} {xs : List V} (hσ : σ[i]? = some (some (.ref a))) (h : SqX K H0 a xs) (k0 : KeepW [] H0 H)
    (body : ∀ (J : It) (G : Hp → Prop), Walk J xs.length G (YPair (fun i => some (.int (i : Nat))) (fun i => xs[i]?)) → (∀ H', KeepW [] H0 H' → G H') → WI J g tb { D with nx := rest D } σ H) :
    tSeq (tFor (iOr (iEnum K (tCons (tVar i) tNil)) (iEnumT K (tCons (tVar i) tNil))) g tb) rest D σ H := by
  rcases h with h | h
  · exact .inl ⟨_, hσ, a, xs, rfl, sqL_keep k0 (fun m => nomatch m) h, body _ _ walk_enl fun H' k => sqL_keep k (fun m => nomatch m) h⟩
  · exact .inr ⟨_, hσ, a, xs, rfl, sqT_keep k0 h, body _ _ walk_ent fun H' k => sqT_keep k h⟩
end HG
set_option maxHeartbeats 2000000
namespace HG
open PySem PySem.Spec PyProof.Rows L2
/-! ## dict(enumerate(a list)) -/
def ik {α : Type} : Nat → List α → List (Key × α)
  | _, [] => []
  | k, x :: r => (Sum.inl (k : Int), x) :: ik (k + 1) r
theorem ik_len {α : Type} : ∀ {l : List α} {k : Nat}, (ik k l).length = l.length
  | [], _ => rfl
  | _ :: r, k => congrArg (· + 1) (ik_len (l := r) (k := k + 1))
theorem ik_get {α : Type} : ∀ {l : List α} {k i : Nat}, (ik k l)[i]? = l[i]?.map fun v => ((Sum.inl (((k + i : Nat) : Int)) : Key), v)
  | [], _, _ => rfl
  | x :: r, k, 0 => rfl
  | x :: r, k, i + 1 => by
    show (ik (k + 1) r)[i]? = _
    rw [ik_get, show k + 1 + i = k + (i + 1) by omega]
    rfl
theorem ik_kv : ∀ {xs : List V} {us : List Value} {k : Nat}, Vals xs us → KV (ik k xs) (ik k us) := by
  intro xs us k r
  induction r generalizing k with
  | nil => exact .nil
  | cons h t ih => exact .cons ⟨rfl, h⟩ ih
def tDictEnum (K : PySem.W.Frag) (te : TE) : TE := fun σ H Q => te σ H fun v H1 => ∃ (a : Addr) (xs : List V), v = .ref a ∧ SqL K H1 a xs ∧ ∀ q kvs, H1 q = none → Q (.ref q) (upd H1 q (.dK kvs))
theorem pe_dictEnum {X : Cx} {e : Expr} {te : TE} {p p2 pos pos2 : Pos} (hc : X.calm = true) (hg : Gl X "dict") (hm : X.mg "dict" = none) (hg2 : Gl X "enumerate") (hm2 : X.mg "enumerate" = none) (he : PE X e te)
    (hs : starEach [e] X.env = (false, eval e X.env) :: starEach [] X.env := by rfl)
    (hs2 : starEach [.Call (.Name "enumerate" p2) [e] [] pos2] X.env = (false, eval (.Call (.Name "enumerate" p2) [e] [] pos2) X.env) :: starEach [] X.env := by rfl) :
    PE X (.Call (.Name "dict" p) [.Call (.Name "enumerate" p2) [e] [] pos2] [] pos) (tDictEnum X.K te) := by
  refine ⟨fun pins s σ H Q I h => ?_⟩
  refine Call_ (ld_blt I hg hm PyProof.Rows.boot_dict (PyProof.Rows.callWith_type1 (args_cons (Call_ (ld_blt I hg2 hm2 boot_enumerate (PyProof.Rows.callWith_type1 (args_cons (thn (he.run pins s σ H _ I h) fun u s1 ⟨v, H1, I1, r1, q1⟩ => args_nil ?_) hs) hs rfl))) hs2) hs2 rfl))
  obtain ⟨a, xs, ev, hq, q⟩ := q1
  subst ev
  obtain rfl : u = Value.ref a := r1
  obtain ⟨its, rv, p', hz⟩ := I1.list hq
  refine call_enumerate_list p'.isList fun h' hen hit hsz hk => args_nil ?_
  have I2 : Inv X pins σ H1 { s1 with heap := h' } := I1.kept (t' := s1.toks) hk
  have hf : ∀ b ∈ [s1.heap.objs.size + 1, s1.heap.objs.size], FpOk X pins H1 b := fun b hb => by
    have hle : s1.heap.objs.size ≤ b := by
      have e' : b = s1.heap.objs.size + 1 ∨ b = s1.heap.objs.size := by simpa using hb
      rcases e' with z | z
      · rw [z]; exact Nat.le_add_right _ _
      · rw [z]; exact Nat.le_refl _
    exact I1.fpOk hle (I1.hok.fresh hle)
  have hl := p'.isList
  obtain ⟨ol, hol, _⟩ := id hl
  have lt : a < s1.heap.objs.size := Heap.lt_size hol
  have hl2 : h'.IsList a its.toArray := hl.at fun o x => hk _ o x
  refine PySem.call_dict_pairs (knd := mixKind X.prog X.w) (kvs := ik 0 its) (s := { s1 with heap := h' }) (PairArg.enumerate (s1.heap.objs.size + 1) s1.heap.objs.size a (Nat.succ_ne_self _) (Nat.ne_of_lt (Nat.lt_succ_of_lt lt)) (Nat.ne_of_lt lt) its.toArray) (I1.ok.hd hc) ⟨⟨_, hen⟩, hit, hl2⟩ ⟨by rw [ik_len, List.size_toArray], fun i key v hr => ?_⟩ ?_ (fun h2 tk hd hk2 => ?_)
  · obtain ⟨⟨t, rfl⟩, hv⟩ := hr
    rw [List.getElem?_toArray] at hv
    refine ⟨Sum.inl ((i : Nat) : Int), by rw [ik_get, hv, Nat.zero_add]; rfl, ?_⟩
    exact keyIs_int (i : Int) t
  · rw [List.size_toArray, ← rv.length]
    exact hz
  · have hm' : (h'.objs.size == sysModules) = false := beq_eq_false_iff_ne.mpr (Nat.ne_of_gt I2.big)
    have hlen : (mergeK [] (ik 0 xs)).length ≤ sizeLine := by
      refine Nat.le_trans (length_mergeK _ []) ?_
      rw [List.length_nil, Nat.zero_add, ik_len]
      exact hz
    refine ⟨.ref h'.objs.size, upd H1 h'.objs.size (.dK (mergeK [] (ik 0 xs))), I2.turnedNew (t' := tk) (ch := [s1.heap.objs.size + 1, s1.heap.objs.size]) (fun b o hb e => hk2 b o hb e) hf (Nat.le_refl _) (show ObjOk X.prog X.w _ _ _ (.dK (mergeK [] (ik 0 xs))) from ⟨hlen, hm', merged [] (ik 0 its), KV.merge (ik_kv rv) .nil, hd⟩), rfl, q _ _ (I2.hok.fresh (Nat.le_refl _))⟩
end HG
set_option maxHeartbeats 2000000
namespace PU
open PySem PySem.Spec PyProof.Rows L2 HG

/-! ## data: values with what they hold, without the heap -/
inductive D where
  | non | bl (b : Bool) | int (i : Int) | str (x : Str) | ty (n : String)
  | ref (a : Addr)
  | lst (xs : List D) | tup (xs : List D)
  | dk (ks : List Key) (vs : List D)
  | ins (C : Addr) (ns : List Str) (vs : List D)
  /-- a kept exception -/
  | exc (C : Addr) (ns : List Str) (vs : List D)
/-- F: the frozen part of the heap -/
abbrev NTb (o : HO) : Prop := ∀ ps, o ≠ .tbl ps
abbrev Le (F F' : Hp) : Prop := ∀ a o, F a = some o → NTb o → F' a = some o
theorem Le.rfl {F : Hp} : Le F F := fun _ _ h _ => h
theorem Le.tr {F G H : Hp} (a : Le F G) (b : Le G H) : Le F H := fun x o h t => b x o (a x o h t) t
theorem Le.upd {F : Hp} {p : Addr} {o : HO} (h : Fr0 F p) : Le F (upd F p o) := fun a u e t => by
  rw [upd_ne (fun z => by subst z; obtain ⟨ps, w⟩ := h u e; exact t ps w)]
  exact e
theorem Le.fr {F H : Hp} {p : Addr} (l : Le F H) (np : Fr0 H p) : Fr0 F p := fun o e => by
  by_cases t : ∃ ps, o = .tbl ps
  · exact t
  · exact np o (l p o e fun ps z => t ⟨ps, z⟩)
/-- both are written -/
theorem Le.upd2 {F H : Hp} {p : Addr} {o : HO} (l : Le F H) (np : Fr0 H p) : Le (L2.upd F p o) (L2.upd H p o) := fun a u e t => by
  by_cases q : a = p
  · subst q
    rw [upd_same] at e ⊢
    exact e
  · rw [upd_ne q] at e ⊢
    exact l a u e t
/-- an object that is not frozen is written -/
theorem Le.updR {F H : Hp} {p : Addr} {o : HO} (l : Le F H) (np : Fr0 F p) : Le F (L2.upd H p o) := fun a u e t => by
  rw [upd_ne (fun z => by subst z; obtain ⟨ps, w⟩ := np u e; exact t ps w)]
  exact l a u e t
mutual
inductive Dd (K : PySem.W.Frag) (F : Hp) : V → D → Prop
  | non : Dd K F .non .non
  | bl (b : Bool) : Dd K F (.bl b) (.bl b)
  | int (i : Int) : Dd K F (.int i) (.int i)
  | str (x : Str) : Dd K F (.str x) (.str x)
  | ty (n : String) : Dd K F (.ty n) (.ty n)
  | ref (a : Addr) : Dd K F (.ref a) (.ref a)
  | lst {a : Addr} {xs : List V} {ds : List D} : SqL K F a xs → DdA K F xs ds → Dd K F (.ref a) (.lst ds)
  | tup {a : Addr} {xs : List V} {ds : List D} : SqT K F a xs → DdA K F xs ds → Dd K F (.ref a) (.tup ds)
  | dk {a : Addr} {kvs : List (Key × V)} {ds : List D} : Rd F a (.dK kvs) → DdA K F (kvs.map (·.2)) ds → Dd K F (.ref a) (.dk (kvs.map (·.1)) ds)
  | ins {a C dx : Addr} {fs : List (Str × V)} {ds : List D} : F a = some (.ins C dx fs) → DdA K F (fs.map (·.2)) ds → Dd K F (.ref a) (.ins C (fs.map (·.1)) ds)
  | exc {a C : Addr} {dx : Option Addr} {fs : List (Str × V)} {ds : List D} : F a = some (Exn (.ref C) dx a) → ((dx = none ∧ fs = []) ∨ ∃ d, dx = some d ∧ F d = some (.xd fs)) → DdA K F (fs.map (·.2)) ds → Dd K F (.ref a) (.exc C (fs.map (·.1)) ds)
inductive DdA (K : PySem.W.Frag) (F : Hp) : List V → List D → Prop
  | nil : DdA K F [] []
  | cons {v : V} {vs : List V} {d : D} {ds : List D} : Dd K F v d → DdA K F vs ds → DdA K F (v :: vs) (d :: ds)
end
section
variable {K : PySem.W.Frag} {F F' H : Hp}
theorem Rd.le {a : Addr} {u : HO} (h : Le F F') (r : Rd F a u) (t : NTb u := by exact fun _ z => nomatch z) : Rd F' a u := r.elim (fun e => .inl (h _ _ e t)) fun ⟨o, e⟩ => .inr ⟨o, h _ _ e fun _ z => nomatch z⟩
theorem SqL.le {a : Addr} {xs : List V} (h : Le F F') (r : SqL K F a xs) : SqL K F' a xs := r.elim (fun e => .inl (Rd.le h e)) .inr
theorem SqT.le {a : Addr} {xs : List V} (h : Le F F') (r : SqT K F a xs) : SqT K F' a xs := r.elim (fun e => .inl (Rd.le h e)) .inr
mutual
theorem Dd.le (h : Le F F') : ∀ {v : V} {d : D}, Dd K F v d → Dd K F' v d
  | _, _, .non => .non
  | _, _, .bl b => .bl b
  | _, _, .int i => .int i
  | _, _, .str x => .str x
  | _, _, .ty n => .ty n
  | _, _, .ref a => .ref a
  | _, _, .lst q r => .lst (SqL.le h q) (DdA.le h r)
  | _, _, .tup q r => .tup (SqT.le h q) (DdA.le h r)
  | _, _, .dk q r => .dk (Rd.le h q) (DdA.le h r)
  | _, _, .ins q r => .ins (h _ _ q fun _ z => nomatch z) (DdA.le h r)
  | _, _, .exc q e r => .exc (h _ _ q fun _ z => nomatch z) (e.imp (fun z => z) fun ⟨d, e1, e2⟩ => ⟨d, e1, h _ _ e2 fun _ z => nomatch z⟩) (DdA.le h r)
theorem DdA.le (h : Le F F') : ∀ {vs : List V} {ds : List D}, DdA K F vs ds → DdA K F' vs ds
  | _, _, .nil => .nil
  | _, _, .cons a b => .cons (Dd.le h a) (DdA.le h b)
end
theorem DdA.length : ∀ {vs : List V} {ds : List D}, DdA K F vs ds → vs.length = ds.length
  | _, _, .nil => rfl
  | _, _, .cons _ b => congrArg (· + 1) (DdA.length b)
theorem DdA.get : ∀ {vs : List V} {ds : List D} {i : Nat} {v : V}, DdA K F vs ds → vs[i]? = some v → ∃ d, ds[i]? = some d ∧ Dd K F v d
  | _, _, _, _, .nil, e => by simp at e
  | _, _, 0, _, .cons a _, e => by simp at e; subst e; exact ⟨_, rfl, a⟩
  | _, _, i + 1, _, .cons _ b, e => by simpa using DdA.get (i := i) b (by simpa using e)
theorem DdA.get' : ∀ {vs : List V} {ds : List D} {i : Nat} {d : D}, DdA K F vs ds → ds[i]? = some d → ∃ v, vs[i]? = some v ∧ Dd K F v d
  | _, _, _, _, .nil, e => by simp at e
  | _, _, 0, _, .cons a _, e => by simp at e; subst e; exact ⟨_, rfl, a⟩
  | _, _, i + 1, _, .cons _ b, e => by simpa using DdA.get' (i := i) b (by simpa using e)
theorem DdA.append : ∀ {vs ws : List V} {ds es : List D}, DdA K F vs ds → DdA K F ws es → DdA K F (vs ++ ws) (ds ++ es)
  | _, _, _, _, .nil, b => b
  | _, _, _, _, .cons a r, b => .cons a (DdA.append r b)
theorem DdA.take : ∀ {vs : List V} {ds : List D} (n : Nat), DdA K F vs ds → DdA K F (vs.take n) (ds.take n)
  | _, _, 0, _ => .nil
  | _, _, _ + 1, .nil => .nil
  | _, _, n + 1, .cons a b => .cons a (DdA.take n b)
theorem DdA.drop : ∀ {vs : List V} {ds : List D} (n : Nat), DdA K F vs ds → DdA K F (vs.drop n) (ds.drop n)
  | _, _, 0, r => r
  | _, _, _ + 1, .nil => .nil
  | _, _, n + 1, .cons _ b => DdA.drop n b
theorem DdA.set : ∀ {vs : List V} {ds : List D} (n : Nat) {v : V} {d : D}, DdA K F vs ds → Dd K F v d → DdA K F (vs.set n v) (ds.set n d)
  | _, _, _, _, _, .nil, _ => .nil
  | _, _, 0, _, _, .cons _ b, h => .cons h b
  | _, _, n + 1, _, _, .cons a b, h => .cons a (DdA.set n b h)
theorem DdA.nil_iff {vs : List V} {ds : List D} (h : DdA K F vs ds) : vs = [] ↔ ds = [] := by
  cases h <;> simp
end

/-! ## the ghost: what may change, what is kept of it -/
/-- what may be written; lam: tables of code objects may grow -/
structure Pol where
  ex : List Addr
  lam : Bool
def p0 : Pol := ⟨[], false⟩
structure Gh where
  pol : Pol
  dx : List Addr
  M : Nat → Hp → Prop
  kp : ∀ n H H', (∀ a o, H a = some o → a ∈ dx ∨ ((∀ xs, o ≠ .lst xs) ∧ ∀ kvs, o ≠ .dK kvs) → H' a = some o) → M n H → M n H'
  dm : ∀ n H, M n H → ∀ a ∈ dx, ∃ o, H a = some o ∧ NTb o
def gh0 : Gh := ⟨p0, [], fun _ _ => True, fun _ _ _ _ _ => trivial, fun _ _ _ a h => nomatch h⟩
/-- from (F, H) to (F', H') -/
structure Ex (p : Pol) (F H F' H' : Hp) : Prop where
  up : Le F F'
  le : Le F' H'
  new : ∀ a o, H a = some o → NTb o → F' a = F a
  keep : KeepW p.ex H H'
  tk : p.lam = false → ∀ a ps, H a = some (.tbl ps) → H' a = some (.tbl ps)
theorem Ex.rfl {p : Pol} {F H : Hp} (h : Le F H) : Ex p F H F H := ⟨Le.rfl, h, fun _ _ _ _ => Eq.refl _, KeepW.refl, fun _ _ _ h => h⟩
theorem Ex.tr {p : Pol} {F H F1 H1 F2 H2 : Hp} (a : Ex p F H F1 H1) (b : Ex p F1 H1 F2 H2) : Ex p F H F2 H2 := by
  refine ⟨a.up.tr b.up, b.le, fun x o h t => ?_, a.keep.trans b.keep, fun z x ps h => b.tk z x ps (a.tk z x ps h)⟩
  obtain ⟨o', h', t'⟩ := a.keep.dom x o h t
  rw [b.new x o' h' t', a.new x o h t]
theorem Ex.up0 {p : Pol} {F H F1 H1 : Hp} (a : Ex p0 F H F1 H1) : Ex p F H F1 H1 := ⟨a.up, a.le, a.new, a.keep.nil, fun _ => a.tk (Eq.refl _)⟩
/-- what stays of all that is tracked -/
theorem Ex.all0 {F H F1 H1 : Hp} (x : Ex p0 F H F1 H1) {a : Addr} {o : HO} (e : H a = some o) : H1 a = some o := by
  by_cases t : ∃ ps, o = .tbl ps
  · obtain ⟨ps, w⟩ := t
    subst w
    exact x.tk (Eq.refl _) a ps e
  · exact x.keep.all a o e (fun z => nomatch z) fun ps z => t ⟨ps, z⟩
/-- a new object that is frozen at once -/
theorem Ex.newF {p : Pol} {F H : Hp} {a : Addr} {o : HO} (h : Le F H) (np : H a = none) : Ex p F H (upd F a o) (upd H a o) := by
  have fr := fr0_none np
  refine ⟨Le.upd (h.fr fr), h.upd2 fr, fun b u e _ => by rw [upd_ne (ne_of_none e np)], KeepW.refl.mut fr, fun _ b ps e => ?_⟩
  rw [upd_ne (ne_of_none e np)]
  exact e
/-- a new object that is not frozen -/
theorem Ex.newO {p : Pol} {F H : Hp} {a : Addr} {o : HO} (h : Le F H) (np : H a = none) : Ex p F H F (upd H a o) := by
  have fr := fr0_none np
  refine ⟨Le.rfl, h.updR (h.fr fr), fun b u e _ => Eq.refl _, KeepW.refl.mut fr, fun _ b ps e => ?_⟩
  rw [upd_ne (ne_of_none e np)]
  exact e
/-- frozen, what is new and stands there -/
theorem Ex.frz {p : Pol} {F H F1 H1 : Hp} {a : Addr} {o : HO} (x : Ex p F H F1 H1) (n0 : Fr0 H a) (n1 : Fr0 F1 a) (e : H1 a = some o) : Ex p F H (upd F1 a o) H1 := by
  refine ⟨x.up.tr (Le.upd n1), fun b u q t => ?_, fun b u q t => ?_, x.keep, x.tk⟩
  · by_cases z : b = a
    · subst z
      rw [upd_same] at q
      rw [← q]
      exact e
    · rw [upd_ne z] at q
      exact x.le b u q t
  · rw [upd_ne (fun z => by subst z; obtain ⟨ps, w⟩ := n0 u q; exact t ps w)]
    exact x.new b u q t

/-! ## slots -/
inductive S where
  | u
  | d (x : D)
  /-- a list, a dict of one's own that nobody else knows -/
  | o (a : Addr) (xs : List D)
  | q (a : Addr) (ks : List Key) (vs : List D)
def gt : List S → Nat → S
  | [], _ => .u
  | s :: _, 0 => s
  | _ :: r, i + 1 => gt r i
def st : List S → Nat → S → List S
  | [], _, _ => []
  | _ :: r, 0, x => x :: r
  | s :: r, i + 1, x => s :: st r i x
def own1 : S → List Addr
  | .o a _ => [a]
  | .q a _ _ => [a]
  | _ => []
def owns : List S → List Addr
  | [] => []
  | s :: r => own1 s ++ owns r
theorem st_length : ∀ (l : List S) (i : Nat) (x : S), (st l i x).length = l.length
  | [], _, _ => rfl
  | _ :: _, 0, _ => rfl
  | _ :: r, i + 1, x => congrArg (· + 1) (st_length r i x)
theorem gt_st : ∀ (l : List S) (i j : Nat) (x : S), gt (st l i x) j = if j = i ∧ i < l.length then x else gt l j
  | [], i, j, x => by simp [st]
  | s :: r, 0, 0, x => by simp [st, gt]
  | s :: r, 0, j + 1, x => by simp [st, gt]
  | s :: r, i + 1, 0, x => by simp [st, gt]
  | s :: r, i + 1, j + 1, x => by
    show gt (st r i x) j = _
    rw [gt_st r i j x]
    simp [gt]
theorem owns_mem : ∀ {l : List S} {a : Addr}, a ∈ owns l ↔ ∃ i, a ∈ own1 (gt l i)
  | [], a => ⟨fun h => (nomatch h), fun ⟨i, h⟩ => (nomatch h)⟩
  | s :: r, a => by
    unfold owns
    rw [List.mem_append, owns_mem]
    constructor
    · rintro (h | ⟨i, h⟩)
      · exact ⟨0, h⟩
      · exact ⟨i + 1, h⟩
    · rintro ⟨_ | i, h⟩
      · exact .inl h
      · exact .inr ⟨i, h⟩
/-- own objects stand apart -/
def Apart (l : List S) : Prop := ∀ i j a, a ∈ own1 (gt l i) → a ∈ own1 (gt l j) → i = j
theorem Apart.st {l : List S} {i : Nat} {x : S} (h : Apart l) (hx : ∀ a, a ∈ own1 x → a ∈ own1 (gt l i) ∨ a ∉ owns l) : Apart (st l i x) := by
  intro j k a hj hk
  rw [gt_st] at hj hk
  by_cases qj : j = i ∧ i < l.length <;> by_cases qk : k = i ∧ i < l.length
  · rw [qj.1, qk.1]
  · rw [if_pos qj] at hj
    rw [if_neg qk] at hk
    rcases hx a hj with z | z
    · exact (qj.1.trans (h i k a z hk))
    · exact absurd (owns_mem.mpr ⟨k, hk⟩) z
  · rw [if_neg qj] at hj
    rw [if_pos qk] at hk
    rcases hx a hk with z | z
    · exact ((qk.1.trans (h i j a z hj))).symm
    · exact absurd (owns_mem.mpr ⟨j, hj⟩) z
  · rw [if_neg qj] at hj
    rw [if_neg qk] at hk
    exact h j k a hj hk
def Sl (K : PySem.W.Frag) (F H : Hp) : S → Option V → Prop
  | .u, _ => True
  | .d x, v => ∃ y, v = some y ∧ Dd K F y x
  | .o a xs, v => v = some (.ref a) ∧ ∃ vs, H a = some (.lst vs) ∧ DdA K F vs xs
  | .q a ks xs, v => v = some (.ref a) ∧ ∃ kvs : List (Key × V), H a = some (.dK kvs) ∧ kvs.map (·.1) = ks ∧ DdA K F (kvs.map (·.2)) xs
/-- the context: the heaps at the entry, the ghost -/
structure Cn extends Gh where
  F0 : Hp
  H0 : Hp
structure Rel (K : PySem.W.Frag) (C : Cn) (F : Hp) (ρ : List S) (n : Nat) (σ : L2.St) (H : Hp) : Prop where
  x : Ex C.pol C.F0 C.H0 F H
  m : C.M n H
  len : σ.length = ρ.length
  sl : ∀ i, Sl K F H (gt ρ i) (σ.getD i none)
  apart : Apart ρ
  own : ∀ a ∈ owns ρ, Fr0 F a ∧ a ∉ C.dx ∧ a ∉ C.pol.ex ∧ Fr0 C.H0 a
section
variable {K : PySem.W.Frag} {C : Cn} {F F' : Hp} {ρ : List S} {n : Nat} {σ : L2.St} {H H' : Hp}
theorem Rel.le (r : Rel K C F ρ n σ H) : Le F H := r.x.le
theorem Rel.ownAt (r : Rel K C F ρ n σ H) {a : Addr} (h : a ∈ owns ρ) : ∃ o, H a = some o ∧ NTb o := by
  obtain ⟨i, h⟩ := owns_mem.mp h
  have q := r.sl i
  cases e : gt ρ i with
  | u => rw [e] at h; cases h
  | d x => rw [e] at h; cases h
  | o b xs =>
    rw [e] at h q
    obtain ⟨_, vs, q, _⟩ := q
    rw [show a = b by simpa [own1] using h]
    exact ⟨_, q, fun _ z => nomatch z⟩
  | q b ks xs =>
    rw [e] at h q
    obtain ⟨_, vs, q, _⟩ := q
    rw [show a = b by simpa [own1] using h]
    exact ⟨_, q, fun _ z => nomatch z⟩
theorem Sl.step {s : S} {v : Option V} (h : Sl K F H s v) (up : Le F F') (kp : ∀ a ∈ own1 s, H' a = H a) : Sl K F' H' s v := by
  cases s with
  | u => trivial
  | d x =>
    obtain ⟨y, e, q⟩ := h
    exact ⟨y, e, q.le up⟩
  | o a xs =>
    obtain ⟨e, vs, h1, h2⟩ := h
    exact ⟨e, vs, by rw [kp a (by simp [own1])]; exact h1, h2.le up⟩
  | q a ks xs =>
    obtain ⟨e, kvs, h1, h2, h3⟩ := h
    exact ⟨e, kvs, by rw [kp a (by simp [own1])]; exact h1, h2, h3.le up⟩
/-- a step of the ghost -/
theorem Rel.stepG {n' : Nat} (r : Rel K C F ρ n σ H) (x : Ex C.pol F H F' H') (m : C.M n' H') : Rel K C F' ρ n' σ H' := by
  refine ⟨r.x.tr x, m, r.len, fun i => ?_, r.apart, fun a h => ?_⟩
  · refine (r.sl i).step x.up fun a h => ?_
    have mem := owns_mem.mpr ⟨i, h⟩
    obtain ⟨o, e, t⟩ := r.ownAt mem
    rw [e, x.keep.all a o e (r.own a mem).2.2.1 t]
  · obtain ⟨o, e, t⟩ := r.ownAt h
    obtain ⟨q1, q2⟩ := r.own a h
    exact ⟨fun u hu => q1 u (by rw [← x.new a o e t]; exact hu), q2⟩
theorem _root_.PU.Cn.stay (C : Cn) {n : Nat} (m : C.M n H) (x : Ex p0 F H F' H') : C.M n H' := C.kp n H H' (fun a o e _ => x.all0 e) m
/-- a step that leaves the ghost and the own objects as they are -/
theorem Rel.step (r : Rel K C F ρ n σ H) (x : Ex p0 F H F' H') : Rel K C F' ρ n σ H' := r.stepG x.up0 (C.stay r.m x)
theorem getD_set {σ : L2.St} {i j : Nat} {v : Option V} : (σ.set i v).getD j none = if j = i ∧ i < σ.length then v else σ.getD j none := by
  simp only [List.getD_eq_getElem?_getD]
  by_cases q : j = i
  · subst q
    by_cases l : j < σ.length
    · rw [List.getElem?_set_self l]
      simp [l]
    · rw [if_neg (fun z => l z.2), List.getElem?_eq_none (by simpa using l), List.getElem?_eq_none (by simpa using l)]
  · rw [List.getElem?_set_ne (Ne.symm q), if_neg (fun z => q z.1)]
/-- a slot is set -/
theorem Rel.set {i : Nat} {v : V} {s : S} (r : Rel K C F ρ n σ H) (h : Sl K F H s (some v))
    (hx : ∀ a, a ∈ own1 s → (a ∈ own1 (gt ρ i) ∨ a ∉ owns ρ) ∧ Fr0 F a ∧ a ∉ C.dx ∧ a ∉ C.pol.ex ∧ Fr0 C.H0 a) : Rel K C F (st ρ i s) n (σ.set i (some v)) H := by
  refine ⟨r.x, r.m, by rw [List.length_set, st_length]; exact r.len, fun j => ?_, r.apart.st fun a m => (hx a m).1, fun a m => ?_⟩
  · rw [gt_st, getD_set, r.len]
    by_cases q : j = i ∧ i < ρ.length
    · rw [if_pos q, if_pos q]
      exact h
    · rw [if_neg q, if_neg q]
      exact r.sl j
  · obtain ⟨j, m⟩ := owns_mem.mp m
    rw [gt_st] at m
    by_cases q : j = i ∧ i < ρ.length
    · rw [if_pos q] at m
      exact (hx a m).2
    · rw [if_neg q] at m
      exact r.own a (owns_mem.mpr ⟨j, m⟩)
theorem Rel.setD {i : Nat} {v : V} {x : D} (r : Rel K C F ρ n σ H) (h : Dd K F v x) : Rel K C F (st ρ i (.d x)) n (σ.set i (some v)) H :=
  r.set ⟨v, Eq.refl _, h⟩ fun a m => nomatch m
/-- a slot is forgotten -/
theorem Rel.drop {i : Nat} (r : Rel K C F ρ n σ H) : Rel K C F (st ρ i .u) n σ H := by
  refine ⟨r.x, r.m, by rw [st_length]; exact r.len, fun j => ?_, r.apart.st (fun a m => nomatch m), fun a m => ?_⟩
  · rw [gt_st]
    by_cases q : j = i ∧ i < ρ.length
    · rw [if_pos q]
      trivial
    · rw [if_neg q]
      exact r.sl j
  · obtain ⟨j, m⟩ := owns_mem.mp m
    rw [gt_st] at m
    by_cases q : j = i ∧ i < ρ.length
    · rw [if_pos q] at m
      cases m
    · rw [if_neg q] at m
      exact r.own a (owns_mem.mpr ⟨j, m⟩)
theorem getD_lt {ρ : List S} {i : Nat} {s : S} (h : gt ρ i = s) (n : s ≠ .u) : i < ρ.length := by
  induction ρ generalizing i with
  | nil => exact absurd h.symm n
  | cons a t ih =>
    cases i with
    | zero => exact Nat.succ_pos _
    | succ i => exact Nat.succ_lt_succ (ih h)
/-- an own list is frozen -/
theorem Rel.freeze {i : Nat} {a : Addr} {xs : List D} (r : Rel K C F ρ n σ H) (e : gt ρ i = .o a xs) :
    ∃ F', Le F F' ∧ Rel K C F' (st ρ i (.d (.lst xs))) n σ H ∧ Dd K F' (.ref a) (.lst xs) := by
  have q := r.sl i
  rw [e] at q
  obtain ⟨e1, vs, e2, e3⟩ := q
  have mem : a ∈ owns ρ := owns_mem.mpr ⟨i, by rw [e]; simp [own1]⟩
  obtain ⟨o1, o2, o3, o4⟩ := r.own a mem
  have up : Le F (upd F a (.lst vs)) := Le.upd o1
  have dd : Dd K (upd F a (.lst vs)) (.ref a) (.lst xs) := .lst (.inl (.inl upd_same)) (e3.le up)
  have hi := getD_lt e (fun z => nomatch z)
  refine ⟨_, up, ⟨r.x.frz o4 o1 e2, r.m, by rw [st_length]; exact r.len, fun j => ?_, r.apart.st (fun b m => nomatch m), fun b m => ?_⟩, dd⟩
  · rw [gt_st]
    by_cases z : j = i ∧ i < ρ.length
    · rw [if_pos z, z.1]
      exact ⟨_, e1, dd⟩
    · rw [if_neg z]
      exact (r.sl j).step up fun _ _ => Eq.refl _
  · obtain ⟨j, m⟩ := owns_mem.mp m
    rw [gt_st] at m
    by_cases z : j = i ∧ i < ρ.length
    · rw [if_pos z] at m
      cases m
    · rw [if_neg z] at m
      obtain ⟨p1, p2⟩ := r.own b (owns_mem.mpr ⟨j, m⟩)
      have ne : b ≠ a := fun w => by
        subst w
        exact z ⟨r.apart j i b m (by rw [e]; simp [own1]), hi⟩
      exact ⟨fun u hu => p1 u (by rw [upd_ne ne] at hu; exact hu), p2⟩
end
end PU
set_option maxHeartbeats 2000000
namespace PU
open PySem PySem.Spec PyProof.Rows L2 HG

/-! ## judgements over data -/
abbrev TD := List S → Nat → (D → Nat → Prop) → Prop
abbrev TDb := List S → Nat → (Bool → Nat → Prop) → Prop
abbrev TDa := List S → Nat → (List D → Nat → Prop) → Prop
def Mo {α : Type} (u : List S → Nat → (α → Nat → Prop) → Prop) : Prop := ∀ ρ n (P Q : α → Nat → Prop), (∀ d m, P d m → Q d m) → u ρ n P → u ρ n Q
def tE (K : PySem.W.Frag) (C : Cn) (u : TD) : TE := fun σ H Q => ∃ F ρ n, Rel K C F ρ n σ H ∧ u ρ n fun d m => ∀ v F' H', Ex C.pol F H F' H' → C.M m H' → Dd K F' v d → Q v H'
def tT (K : PySem.W.Frag) (C : Cn) (u : TDb) : TT := fun σ H Q => ∃ F ρ n, Rel K C F ρ n σ H ∧ u ρ n fun b m => ∀ F' H', Ex C.pol F H F' H' → C.M m H' → Q b H'
def tA (K : PySem.W.Frag) (C : Cn) (u : TDa) : TA := fun σ H Q => ∃ F ρ n, Rel K C F ρ n σ H ∧ u ρ n fun ds m => ∀ vs F' H', Ex C.pol F H F' H' → C.M m H' → DdA K F' vs ds → Q vs H'
structure UE (X : Cx) (C : Cn) (e : Expr) (u : TD) : Prop where
  run : PE X e (tE X.K C u)
  mo : Mo u
structure UT (X : Cx) (C : Cn) (e : Expr) (u : TDb) : Prop where
  run : PT X e (tT X.K C u)
  mo : Mo u
structure UW (X : Cx) (C : Cn) (e : Expr) (u : TDb) : Prop where
  run : PW X e (tT X.K C u)
  mo : Mo u
structure UA (X : Cx) (C : Cn) (es : List Expr) (u : TDa) : Prop where
  run : PA X es (tA X.K C u)
  mo : Mo u
theorem PEw {X : Cx} {e : Expr} {t t' : TE} (h : PE X e t) (w : ∀ σ H Q, t' σ H Q → t σ H Q) : PE X e t' := ⟨fun pins s σ H Q I q => h.run pins s σ H Q I (w _ _ _ q)⟩
theorem PTw {X : Cx} {e : Expr} {t t' : TT} (h : PT X e t) (w : ∀ σ H Q, t' σ H Q → t σ H Q) : PT X e t' := ⟨fun pins s σ H Q I q => h.run pins s σ H Q I (w _ _ _ q)⟩
theorem PWw {X : Cx} {e : Expr} {t t' : TT} (h : PW X e t) (w : ∀ σ H Q, t' σ H Q → t σ H Q) : PW X e t' := ⟨fun wh pins s σ H Q I q => h.run wh pins s σ H Q I (w _ _ _ q)⟩
theorem PAw {X : Cx} {e : List Expr} {t t' : TA} (h : PA X e t) (w : ∀ σ H Q, t' σ H Q → t σ H Q) : PA X e t' := ⟨fun pos pins s σ H Q I q => h.run pos pins s σ H Q I (w _ _ _ q)⟩
theorem UW.ut {X : Cx} {C : Cn} {e : Expr} {u : TDb} (h : UW X C e u) : UT X C e u := ⟨h.run.pt, h.mo⟩
/-- two expressions behind one another, heaps and all -/
theorem two {K : PySem.W.Frag} {C : Cn} {ua ub : TD} {σ : L2.St} {H : Hp} {R : V → V → Hp → Prop} {P : D → D → Nat → Prop} (mb : Mo ub) (ma : Mo ua)
    {F : Hp} {ρ : List S} {n : Nat} (rel : Rel K C F ρ n σ H) (h : ua ρ n fun d n1 => ub ρ n1 fun e n2 => P d e n2)
    (q : ∀ x y d e m F' H', Ex C.pol F H F' H' → C.M m H' → Dd K F' x d → Dd K F' y e → P d e m → R x y H') :
    tE K C ua σ H fun x H1 => tE K C ub σ H1 fun y H2 => R x y H2 :=
  ⟨F, ρ, n, rel, ma _ _ _ _ (fun d n1 hb x F1 H1 x1 m1 d1 => ⟨F1, ρ, n1, rel.stepG x1 m1, mb _ _ _ _ (fun e n2 p y F2 H2 x2 m2 d2 => q x y d e n2 F2 H2 (x1.tr x2) m2 (d1.le x2.up) d2 p) hb⟩) h⟩

section
variable {X : Cx} {C : Cn} {a b c : Expr} {ua ub uc : TD} {pos : Pos}
/-! ### names and constants -/
def uVar (i : Nat) : TD := fun ρ n Q => match gt ρ i with
  | .d x => Q x n
  | _ => False
theorem getD_some {σ : L2.St} {i : Nat} {v : V} (h : σ.getD i none = some v) : σ[i]? = some (some v) := by
  rw [List.getD_eq_getElem?_getD] at h
  cases e : σ[i]? with
  | none => rw [e] at h; cases h
  | some w => rw [e] at h; simpa using h
theorem ue_var {i : Nat} {x : Str} (hN : X.N[i]? = some x := by rfl) (hv : Vis X.env.scope x := by first | exact .inl rfl | exact .inr (.inl rfl) | exact .inr (.inr rfl)) (hd : (x == ("__debug__" : Str)) = false := by decide) (hcd : (x == ("__classdict__" : Str)) = false := by decide) :
    UE X C (.Name x pos) (uVar i) := by
  refine ⟨PEw (pe_var hN hv hd hcd) fun σ H Q ⟨F, ρ, n, rel, u⟩ => ?_, fun ρ n P Q h u => ?_⟩
  · unfold uVar at u
    have q := rel.sl i
    cases e : gt ρ i with
    | d x =>
      rw [e] at u q
      obtain ⟨y, e2, dd⟩ := q
      exact ⟨y, getD_some e2, u _ _ _ (Ex.rfl rel.le) rel.m dd⟩
    | _ => rw [e] at u; exact u.elim
  · unfold uVar at u ⊢
    cases e : gt ρ i <;> rw [e] at u <;> first | exact h _ _ u | exact u
def uC (d : D) : TD := fun _ n Q => Q d n
theorem mo_C {d : D} : Mo (uC d) := fun _ _ _ _ h u => h _ _ u
theorem ue_c {e : Expr} {v : V} {d : D} (h : PE X e (tC v)) (hd : ∀ F, Dd X.K F v d) : UE X C e (uC d) :=
  ⟨PEw h fun σ H Q ⟨F, ρ, n, rel, u⟩ => u _ _ _ (Ex.rfl rel.le) rel.m (hd F), mo_C⟩
theorem ue_int {i j} : UE X C (.Constant (.int i) j pos) (uC (.int i)) := ue_c pe_int fun _ => .int i
theorem ue_bl {b j} : UE X C (.Constant (.bool b) j pos) (uC (.bl b)) := ue_c pe_bl fun _ => .bl b
theorem ue_non {j} : UE X C (.Constant .none j pos) (uC .non) := ue_c pe_non fun _ => .non
theorem ue_str {x j} : UE X C (.Constant (.str x) j pos) (uC (.str x)) := ue_c pe_str fun _ => .str x
/-- a module's constant, a class -/
theorem ue_glob {x : Str} {v : V} {u : Value} {d : D} (hm : X.mg x = some u) (r : RelV v u) (hd : ∀ F, Dd X.K F v d) (hg : Gl X x := by rfl) (hdb : (x == ("__debug__" : Str)) = false := by decide) : UE X C (.Name x pos) (uC d) :=
  ue_c (pe_glob hg hm r hdb) hd

/-! ### operators -/
def MoR (r : D → D → (D → Prop) → Prop) : Prop := ∀ x y P Q, (∀ d, P d → Q d) → r x y P → r x y Q
structure OpD (X : Cx) (f : Value → Value → Sem Value) (r : D → D → (D → Prop) → Prop) : Prop where
  mo : MoR r
  run : OpR X f fun x y H Q => ∃ F dx dy, Le F H ∧ Dd X.K F x dx ∧ Dd X.K F y dy ∧ r dx dy fun d => ∀ v F' H', Ex p0 F H F' H' → Dd X.K F' v d → Q v H'
def uOp (r : D → D → (D → Prop) → Prop) (ua ub : TD) : TD := fun ρ n Q => ua ρ n fun d n1 => ub ρ n1 fun e n2 => r d e fun z => Q z n2
theorem mo_Op {r : D → D → (D → Prop) → Prop} (mr : MoR r) (ma : Mo ua) (mb : Mo ub) : Mo (uOp r ua ub) :=
  fun ρ n P Q h u => ma _ _ _ _ (fun d n1 => mb _ _ _ _ fun e n2 => mr _ _ _ _ fun z => h z n2) u
theorem tOp_of {f : Value → Value → Sem Value} {r : D → D → (D → Prop) → Prop} (ho : OpD X f r) (ha : UE X C a ua) (hb : UE X C b ub) {σ : L2.St} {H : Hp} {Q : VK}
    (h : tE X.K C (uOp r ua ub) σ H Q) : tOp (fun x y H Q => ∃ F dx dy, Le F H ∧ Dd X.K F x dx ∧ Dd X.K F y dy ∧ r dx dy fun d => ∀ v F' H', Ex p0 F H F' H' → Dd X.K F' v d → Q v H') (tE X.K C ua) (tE X.K C ub) σ H Q := by
  obtain ⟨F, ρ, n, rel, u⟩ := h
  exact two hb.mo ha.mo rel u fun x y d e m F' H' x1 m1 d1 d2 p => ⟨F', d, e, x1.le, d1, d2, ho.mo _ _ _ _ (fun z q v F2 H2 x2 dd => q v F2 H2 (x1.tr x2.up0) (C.stay m1 x2) dd) p⟩
theorem ue_op {op : Operator} {r : D → D → (D → Prop) → Prop} (ho : OpD X (binaryOp op) r) (ha : UE X C a ua) (hb : UE X C b ub) : UE X C (.BinOp a op b pos) (uOp r ua ub) :=
  ⟨PEw (pe_op ho.run ha.run hb.run) fun σ H Q h => tOp_of ho ha hb h, mo_Op ho.mo ha.mo hb.mo⟩
theorem ue_cmp {op : CmpOp} {r : D → D → (D → Prop) → Prop} (ho : OpD X (compareOp op) r) (ha : UE X C a ua) (hb : UE X C b ub) (hm : behindInMarks op b = false := by first | exact nomark _ | with_unfolding_all rfl) :
    UE X C (.Compare a [op] [b] pos) (uOp r ua ub) :=
  ⟨PEw (pe_cmpR ho.run ha.run hb.run hm) fun σ H Q h => tOp_of ho ha hb h, mo_Op ho.mo ha.mo hb.mo⟩
/-- a value as a test: it is a bool -/
def bOf : D → (Bool → Prop) → Prop
  | .bl b, Q => Q b
  | _, _ => False
theorem mo_bOf {d : D} {P Q : Bool → Prop} (h : ∀ b, P b → Q b) (u : bOf d P) : bOf d Q := by
  cases d <;> first | exact h _ u | exact u
def uB (u : TD) : TDb := fun ρ n Q => u ρ n fun d m => bOf d fun b => Q b m
theorem mo_B {u : TD} (h : Mo u) : Mo (uB u) := fun ρ n P Q i w => h _ _ _ _ (fun d m => mo_bOf fun b => i b m) w
theorem bOf_of {K : PySem.W.Frag} {F : Hp} {v : V} {d : D} (h : Dd K F v d) {Q : Bool → Prop} (q : bOf d Q) : ∃ b, v = .bl b ∧ Q b := by
  cases d with
  | bl b => cases h; exact ⟨b, rfl, q⟩
  | _ => exact q.elim
theorem ut_cmp {op : CmpOp} {r : D → D → (D → Prop) → Prop} (ho : OpD X (compareOp op) r) (ha : UE X C a ua) (hb : UE X C b ub) (hm : behindInMarks op b = false := by first | exact nomark _ | with_unfolding_all rfl) :
    UT X C (.Compare a [op] [b] pos) (uB (uOp r ua ub)) := by
  refine ⟨PTw (pt_cmpR ho.run ha.run hb.run hm) fun σ H Q h => ?_, mo_B (mo_Op ho.mo ha.mo hb.mo)⟩
  obtain ⟨F, ρ, n, rel, u⟩ := h
  refine tOp_of (Q := fun x H' => ∃ k, x = .bl k ∧ Q k H') ho ha hb ⟨F, ρ, n, rel, mo_Op ho.mo ha.mo hb.mo _ _ _ _ (fun d m q v F' H' x m' dd => ?_) u⟩
  obtain ⟨k, e, q⟩ := bOf_of dd q
  exact ⟨k, e, q F' H' x m'⟩
theorem ut_val {e : Expr} {u : TD} (h : UE X C e u) (he : ∀ whole, isTrue e X.env whole = (do let v ← whole; standAt e.pos; holding [v] (truthy v)) := by intro _; rfl) : UT X C e (uB u) := by
  refine ⟨PTw (pt_val h.run he) fun σ H Q q => ?_, mo_B h.mo⟩
  obtain ⟨F, ρ, n, rel, q⟩ := q
  refine ⟨F, ρ, n, rel, h.mo _ _ _ _ (fun d m q v F' H' x m' dd => ?_) q⟩
  obtain ⟨k, e, q⟩ := bOf_of dd q
  exact ⟨k, e, q F' H' x m'⟩
/-! ### and, or, not -/
variable {tA' tB' : TDb} {rest : List Expr}
def uAnd (t u : TDb) : TDb := fun ρ n Q => t ρ n fun c m => if c = true then u ρ m Q else Q false m
def uOr (t u : TDb) : TDb := fun ρ n Q => t ρ n fun c m => if c = true then Q true m else u ρ m Q
def uNot (t : TDb) : TDb := fun ρ n Q => t ρ n fun c m => Q (!c) m
theorem mo_And {t u : TDb} (ht : Mo t) (hu : Mo u) : Mo (uAnd t u) := fun ρ n P Q h w => ht _ _ _ _ (fun c m q => by
  by_cases e : c = true
  · rw [if_pos e] at q ⊢; exact hu _ _ _ _ h q
  · rw [if_neg e] at q ⊢; exact h _ _ q) w
theorem mo_Or {t u : TDb} (ht : Mo t) (hu : Mo u) : Mo (uOr t u) := fun ρ n P Q h w => ht _ _ _ _ (fun c m q => by
  by_cases e : c = true
  · rw [if_pos e] at q ⊢; exact h _ _ q
  · rw [if_neg e] at q ⊢; exact hu _ _ _ _ h q) w
theorem mo_Not {t : TDb} (ht : Mo t) : Mo (uNot t) := fun ρ n P Q h w => ht _ _ _ _ (fun c m => h _ m) w
theorem uw_and1 (ha : UT X C a tA') : UW X C (.BoolOp .And [a] pos) tA' := ⟨pw_and1 ha.run, ha.mo⟩
theorem uw_or1 (ha : UT X C a tA') : UW X C (.BoolOp .Or [a] pos) tA' := ⟨pw_or1 ha.run, ha.mo⟩
theorem uw_and (ha : UT X C a tA') (hb : UW X C (.BoolOp .And (b :: rest) pos) tB') : UW X C (.BoolOp .And (a :: b :: rest) pos) (uAnd tA' tB') := by
  refine ⟨PWw (pw_and ha.run hb.run) fun σ H Q h => ?_, mo_And ha.mo hb.mo⟩
  obtain ⟨F, ρ, n, rel, h⟩ := h
  refine ⟨F, ρ, n, rel, ha.mo _ _ _ _ (fun c m q F' H' x m' => ?_) h⟩
  by_cases e : c = true
  · rw [if_pos e] at q ⊢
    exact ⟨F', ρ, m, rel.stepG x m', hb.mo _ _ _ _ (fun b k q F2 H2 x2 m2 => q F2 H2 (x.tr x2) m2) q⟩
  · rw [if_neg e] at q ⊢
    exact q F' H' x m'
theorem uw_or (ha : UT X C a tA') (hb : UW X C (.BoolOp .Or (b :: rest) pos) tB') : UW X C (.BoolOp .Or (a :: b :: rest) pos) (uOr tA' tB') := by
  refine ⟨PWw (pw_or ha.run hb.run) fun σ H Q h => ?_, mo_Or ha.mo hb.mo⟩
  obtain ⟨F, ρ, n, rel, h⟩ := h
  refine ⟨F, ρ, n, rel, ha.mo _ _ _ _ (fun c m q F' H' x m' => ?_) h⟩
  by_cases e : c = true
  · rw [if_pos e] at q ⊢
    exact q F' H' x m'
  · rw [if_neg e] at q ⊢
    exact ⟨F', ρ, m, rel.stepG x m', hb.mo _ _ _ _ (fun b k q F2 H2 x2 m2 => q F2 H2 (x.tr x2) m2) q⟩
theorem ut_not (ha : UT X C a tA') : UT X C (.UnaryOp .Not a pos) (uNot tA') :=
  ⟨PTw (pt_not ha.run) fun σ H Q ⟨F, ρ, n, rel, h⟩ => ⟨F, ρ, n, rel, h⟩, mo_Not ha.mo⟩
/-- as values: bools -/
def uAndV (ua ub : TD) : TD := fun ρ n Q => ua ρ n fun d m => bOf d fun c => if c = true then ub ρ m Q else Q (.bl false) m
def uOrV (ua ub : TD) : TD := fun ρ n Q => ua ρ n fun d m => bOf d fun c => if c = true then Q (.bl true) m else ub ρ m Q
def uNotV (ua : TD) : TD := fun ρ n Q => ua ρ n fun d m => bOf d fun c => Q (.bl (!c)) m
theorem mo_AndV (ha : Mo ua) (hb : Mo ub) : Mo (uAndV ua ub) := fun ρ n P Q h w => ha _ _ _ _ (fun d m => mo_bOf fun c q => by
  by_cases e : c = true
  · rw [if_pos e] at q ⊢; exact hb _ _ _ _ h q
  · rw [if_neg e] at q ⊢; exact h _ _ q) w
theorem mo_OrV (ha : Mo ua) (hb : Mo ub) : Mo (uOrV ua ub) := fun ρ n P Q h w => ha _ _ _ _ (fun d m => mo_bOf fun c q => by
  by_cases e : c = true
  · rw [if_pos e] at q ⊢; exact h _ _ q
  · rw [if_neg e] at q ⊢; exact hb _ _ _ _ h q) w
theorem ue_one {op} (h : UE X C a ua) : UE X C (.BoolOp op [a] pos) ua := ⟨pe_one h.run, h.mo⟩
theorem ue_and (ha : UE X C a ua) (hb : UE X C (.BoolOp .And (b :: rest) pos) ub) : UE X C (.BoolOp .And (a :: b :: rest) pos) (uAndV ua ub) := by
  refine ⟨PEw (pe_and ha.run hb.run) fun σ H Q h => ?_, mo_AndV ha.mo hb.mo⟩
  obtain ⟨F, ρ, n, rel, h⟩ := h
  refine ⟨F, ρ, n, rel, ha.mo _ _ _ _ (fun d m q v F' H' x m' dd => ?_) h⟩
  obtain ⟨c, e, q⟩ := bOf_of dd q
  refine ⟨c, e, ?_⟩
  by_cases e : c = true
  · rw [if_pos e] at q ⊢
    exact ⟨F', ρ, m, rel.stepG x m', hb.mo _ _ _ _ (fun b k q v2 F2 H2 x2 m2 => q v2 F2 H2 (x.tr x2) m2) q⟩
  · rw [if_neg e] at q ⊢
    exact q _ F' H' x m' (.bl false)
theorem ue_or (ha : UE X C a ua) (hb : UE X C (.BoolOp .Or (b :: rest) pos) ub) : UE X C (.BoolOp .Or (a :: b :: rest) pos) (uOrV ua ub) := by
  refine ⟨PEw (pe_or ha.run hb.run) fun σ H Q h => ?_, mo_OrV ha.mo hb.mo⟩
  obtain ⟨F, ρ, n, rel, h⟩ := h
  refine ⟨F, ρ, n, rel, ha.mo _ _ _ _ (fun d m q v F' H' x m' dd => ?_) h⟩
  obtain ⟨c, e, q⟩ := bOf_of dd q
  refine ⟨c, e, ?_⟩
  by_cases e : c = true
  · rw [if_pos e] at q ⊢
    exact q _ F' H' x m' (.bl true)
  · rw [if_neg e] at q ⊢
    exact ⟨F', ρ, m, rel.stepG x m', hb.mo _ _ _ _ (fun b k q v2 F2 H2 x2 m2 => q v2 F2 H2 (x.tr x2) m2) q⟩
theorem ue_not (ha : UE X C a ua) : UE X C (.UnaryOp .Not a pos) (uNotV ua) := by
  refine ⟨PEw (pe_not ha.run) fun σ H Q h => ?_, fun ρ n P Q h w => ha.mo _ _ _ _ (fun d m => mo_bOf fun c => h _ m) w⟩
  obtain ⟨F, ρ, n, rel, h⟩ := h
  refine ⟨F, ρ, n, rel, ha.mo _ _ _ _ (fun d m q v F' H' x m' dd => ?_) h⟩
  obtain ⟨c, e, q⟩ := bOf_of dd q
  exact ⟨c, e, q _ F' H' x m' (.bl _)⟩
def uIf (t : TDb) (ua ub : TD) : TD := fun ρ n Q => t ρ n fun c m => if c = true then ua ρ m Q else ub ρ m Q
theorem ue_ifExp {t : TDb} (hc : UT X C c t) (ha : UE X C a ua) (hb : UE X C b ub) : UE X C (.IfExp c a b pos) (uIf t ua ub) := by
  refine ⟨PEw (pe_ifExp hc.run ha.run hb.run) fun σ H Q h => ?_, fun ρ n P Q h w => hc.mo _ _ _ _ (fun c m q => ?_) w⟩
  · obtain ⟨F, ρ, n, rel, h⟩ := h
    refine ⟨F, ρ, n, rel, hc.mo _ _ _ _ (fun c m q F' H' x m' => ?_) h⟩
    by_cases e : c = true
    · rw [if_pos e] at q ⊢
      exact ⟨F', ρ, m, rel.stepG x m', ha.mo _ _ _ _ (fun b k q v2 F2 H2 x2 m2 => q v2 F2 H2 (x.tr x2) m2) q⟩
    · rw [if_neg e] at q ⊢
      exact ⟨F', ρ, m, rel.stepG x m', hb.mo _ _ _ _ (fun b k q v2 F2 H2 x2 m2 => q v2 F2 H2 (x.tr x2) m2) q⟩
  · by_cases e : c = true
    · rw [if_pos e] at q ⊢; exact ha.mo _ _ _ _ h q
    · rw [if_neg e] at q ⊢; exact hb.mo _ _ _ _ h q
/-! ### argument lists, displays -/
def uNil : TDa := fun _ n Q => Q [] n
def uCons (ua : TD) (ur : TDa) : TDa := fun ρ n Q => ua ρ n fun d m => ur ρ m fun ds k => Q (d :: ds) k
variable {e : Expr} {es : List Expr} {u : TD} {us : TDa}
theorem mo_Cons (h : Mo u) (hs : Mo us) : Mo (uCons u us) := fun ρ n P Q i w => h _ _ _ _ (fun d m => hs _ _ _ _ fun ds k => i _ k) w
theorem ua_nil : UA X C [] uNil := ⟨PAw pa_nil fun σ H Q ⟨F, ρ, n, rel, h⟩ => h [] F H (Ex.rfl rel.le) rel.m .nil, fun _ _ _ _ h u => h _ _ u⟩
theorem ua_cons (ha : UE X C e u) (hr : UA X C es us) (hs : starEach (e :: es) X.env = (false, eval e X.env) :: starEach es X.env := by rfl) : UA X C (e :: es) (uCons u us) :=
  ⟨PAw (pa_cons ha.run hr.run hs) fun σ H Q ⟨F, ρ, n, rel, h⟩ => ⟨F, ρ, n, rel, ha.mo _ _ _ _ (fun d m q v F1 H1 x1 m1 d1 =>
    ⟨F1, ρ, m, rel.stepG x1 m1, hr.mo _ _ _ _ (fun ds k q vs F2 H2 x2 m2 d2 => q (v :: vs) F2 H2 (x1.tr x2) m2 (.cons (d1.le x2.up) d2)) q⟩) h⟩, mo_Cons ha.mo hr.mo⟩
def uTup (us : TDa) : TD := fun ρ n Q => us ρ n fun ds m => ds.length ≤ sizeLine ∧ Q (.tup ds) m
def uLst (us : TDa) : TD := fun ρ n Q => us ρ n fun ds m => ds.length ≤ sizeLine ∧ Q (.lst ds) m
theorem mo_Tup (h : Mo us) : Mo (uTup us) := fun ρ n P Q i w => h _ _ _ _ (fun d m q => ⟨q.1, i _ _ q.2⟩) w
theorem mo_Lst (h : Mo us) : Mo (uLst us) := fun ρ n P Q i w => h _ _ _ _ (fun d m q => ⟨q.1, i _ _ q.2⟩) w
theorem dd_tupN {K : PySem.W.Frag} {F : Hp} {p : Addr} {vs : List V} {ds : List D} (h : DdA K F vs ds) (np : Fr0 F p) : Dd K (upd F p (.tup vs)) (.ref p) (.tup ds) :=
  .tup (.inl (.inl upd_same)) (h.le (Le.upd np))
theorem dd_lstN {K : PySem.W.Frag} {F : Hp} {p : Addr} {vs : List V} {ds : List D} (h : DdA K F vs ds) (np : Fr0 F p) : Dd K (upd F p (.lst vs)) (.ref p) (.lst ds) :=
  .lst (.inl (.inl upd_same)) (h.le (Le.upd np))
theorem ue_tup {x1} (h : UA X C es us) : UE X C (.Tuple es x1 pos) (uTup us) :=
  ⟨PEw (pe_tup h.run) fun σ H Q ⟨F, ρ, n, rel, q⟩ => ⟨F, ρ, n, rel, h.mo _ _ _ _ (fun ds m q vs F1 H1 x1 m1 d1 => ⟨by rw [d1.length]; exact q.1, fun p np =>
    q.2 _ _ _ (x1.tr (Ex.newF x1.le np)) (C.stay m1 (Ex.newO x1.le np)) (dd_tupN d1 (x1.le.fr (fr0_none np)))⟩) q⟩, mo_Tup h.mo⟩
theorem ue_lst (h : UA X C es us) : UE X C (.List es pos) (uLst us) :=
  ⟨PEw (pe_lst h.run) fun σ H Q ⟨F, ρ, n, rel, q⟩ => ⟨F, ρ, n, rel, h.mo _ _ _ _ (fun ds m q vs F1 H1 x1 m1 d1 => ⟨by rw [d1.length]; exact q.1, fun p np =>
    q.2 _ _ _ (x1.tr (Ex.newF x1.le np)) (C.stay m1 (Ex.newO x1.le np)) (dd_lstN d1 (x1.le.fr (fr0_none np)))⟩) q⟩, mo_Lst h.mo⟩
/-! ### calls of built-ins -/
structure CallD (X : Cx) (f : Value) (r : List D → (D → Prop) → Prop) : Prop where
  mo : ∀ xs P Q, (∀ d, P d → Q d) → r xs P → r xs Q
  run : CallR X f fun xs H Q => ∃ F ds, Le F H ∧ DdA X.K F xs ds ∧ r ds fun d => ∀ v F' H', Ex p0 F H F' H' → Dd X.K F' v d → Q v H'
def uCall (r : List D → (D → Prop) → Prop) (us : TDa) : TD := fun ρ n Q => us ρ n fun ds m => r ds fun d => Q d m
theorem mo_Call {r : List D → (D → Prop) → Prop} (mr : ∀ xs P Q, (∀ d, P d → Q d) → r xs P → r xs Q) (h : Mo us) : Mo (uCall r us) := fun ρ n P Q i w => h _ _ _ _ (fun ds m => mr _ _ _ fun d => i d m) w
theorem ue_callB {id : String} {x : Str} {p : Pos} {r : List D → (D → Prop) → Prop} (hc : CallD X (.builtin id) r) (hm : X.mg x = none) (ha : UA X C (e :: es) us) (hv : bootBuiltins x = some (.builtin id) := by decide +kernel) (hg : Gl X x := by rfl) (hn : x ≠ "__name__" := by decide) (hdb : (x == ("__debug__" : Str)) = false := by decide)
    (he : starEach (e :: es) X.env = (false, eval e X.env) :: starEach es X.env := by rfl) (hpl : (backTo pos (starEach es X.env)).any (·.1) = false := by rfl) : UE X C (.Call (.Name x p) (e :: es) [] pos) (uCall r us) :=
  ⟨PEw (pe_callB hc.run hg hm hv ha.run hn hdb he hpl) fun σ H Q ⟨F, ρ, n, rel, h⟩ => ⟨F, ρ, n, rel, ha.mo _ _ _ _ (fun ds m q vs F1 H1 x1 m1 d1 =>
    ⟨F1, ds, x1.le, d1, hc.mo _ _ _ (fun d q v F2 H2 x2 dd => q v F2 H2 (x1.tr x2.up0) (C.stay m1 x2) dd) q⟩) h⟩, mo_Call hc.mo ha.mo⟩
theorem ue_callTy {T : String} {x : Str} {p : Pos} {r : List D → (D → Prop) → Prop} (hc : CallD X (.type T) r) (hm : X.mg x = none) (ha : UA X C (e :: es) us) (hv : bootBuiltins x = some (.type T) := by decide +kernel) (hg : Gl X x := by rfl) (hn : x ≠ "__name__" := by decide) (hdb : (x == ("__debug__" : Str)) = false := by decide)
    (he : starEach (e :: es) X.env = (false, eval e X.env) :: starEach es X.env := by rfl) (hpl : (backTo pos (starEach es X.env)).any (·.1) = false := by rfl) : UE X C (.Call (.Name x p) (e :: es) [] pos) (uCall r us) :=
  ⟨PEw (pe_callTy hc.run hg hm hv ha.run hn hdb he hpl) fun σ H Q ⟨F, ρ, n, rel, h⟩ => ⟨F, ρ, n, rel, ha.mo _ _ _ _ (fun ds m q vs F1 H1 x1 m1 d1 =>
    ⟨F1, ds, x1.le, d1, hc.mo _ _ _ (fun d q v F2 H2 x2 dd => q v F2 H2 (x1.tr x2.up0) (C.stay m1 x2) dd) q⟩) h⟩, mo_Call hc.mo ha.mo⟩
/-! ### own lists, read -/
def flat : D → Bool
  | .non => true
  | .bl _ => true
  | .int _ => true
  | .str _ => true
  | _ => false
theorem flat_dd {K : PySem.W.Frag} {F F' : Hp} {v : V} {d : D} (h : Dd K F v d) (f : flat d = true) : Dd K F' v d := by
  cases d with
  | non => cases h; exact .non
  | bl b => cases h; exact .bl _
  | int i => cases h; exact .int _
  | str s => cases h; exact .str _
  | _ => cases f
def uTmp (i : Nat) (u : TD) : TD := fun ρ n Q => match gt ρ i with
  | .o _ xs => u (st ρ i (.d (.lst xs))) n fun d m => flat d = true ∧ Q d m
  | _ => False
def uTmpB (i : Nat) (u : TDb) : TDb := fun ρ n Q => match gt ρ i with
  | .o _ xs => u (st ρ i (.d (.lst xs))) n Q
  | _ => False
theorem ue_tmp {i : Nat} (h : UE X C e u) : UE X C e (uTmp i u) := by
  refine ⟨PEw h.run fun σ H Q ⟨F, ρ, n, rel, q⟩ => ?_, fun ρ n P Q i w => ?_⟩
  · unfold uTmp at q
    cases e : gt ρ i with
    | o a xs =>
      rw [e] at q
      obtain ⟨F1, up, rel1, _⟩ := rel.freeze e
      refine ⟨F1, _, n, rel1, h.mo _ _ _ _ (fun d m q v F2 H2 x2 m2 d2 => q.2 v F H2 ⟨Le.rfl, (up.tr x2.up).tr x2.le, fun _ _ _ _ => Eq.refl _, x2.keep, x2.tk⟩ m2 (flat_dd d2 q.1)) q⟩
    | _ => rw [e] at q; exact q.elim
  · unfold uTmp at w ⊢
    split <;> rename_i e <;> simp only [e] at w
    · exact h.mo _ _ _ _ (fun d m q => ⟨q.1, i _ _ q.2⟩) w
theorem ut_tmp {i : Nat} {u : TDb} (h : UT X C e u) : UT X C e (uTmpB i u) := by
  refine ⟨PTw h.run fun σ H Q ⟨F, ρ, n, rel, q⟩ => ?_, fun ρ n P Q i w => ?_⟩
  · unfold uTmpB at q
    cases e : gt ρ i with
    | o a xs =>
      rw [e] at q
      obtain ⟨F1, up, rel1, _⟩ := rel.freeze e
      refine ⟨F1, _, n, rel1, h.mo _ _ _ _ (fun b m q F2 H2 x2 m2 => q F H2 ⟨Le.rfl, (up.tr x2.up).tr x2.le, fun _ _ _ _ => Eq.refl _, x2.keep, x2.tk⟩ m2) q⟩
    | _ => rw [e] at q; exact q.elim
  · unfold uTmpB at w ⊢
    split <;> rename_i e <;> simp only [e] at w
    · exact h.mo _ _ _ _ i w
end
end PU
set_option maxHeartbeats 2000000
namespace PU
open PySem PySem.Spec PyProof.Rows L2 HG

/-! ## statements over data -/
structure EndD where
  nx : List S → Nat → Prop
  rt : D → Nat → Prop
  bk : List S → Nat → Prop := fun _ _ => False
  ct : List S → Nat → Prop := fun _ _ => False
abbrev TDs := EndD → List S → Nat → Prop
structure EndOk (K : PySem.W.Frag) (C : Cn) (F : Hp) (E : EndD) (D : Ends) : Prop where
  nx : ∀ F' ρ n σ H, Le F F' → Rel K C F' ρ n σ H → E.nx ρ n → D.nx σ H
  rt : ∀ v d F' n H, Ex C.pol C.F0 C.H0 F' H → C.M n H → Dd K F' v d → E.rt d n → D.rt v H
  bk : ∀ F' ρ n σ H, Le F F' → Rel K C F' ρ n σ H → E.bk ρ n → D.bk σ H
  ct : ∀ F' ρ n σ H, Le F F' → Rel K C F' ρ n σ H → E.ct ρ n → D.ct σ H
theorem EndOk.le {K : PySem.W.Frag} {C : Cn} {F F' : Hp} {E : EndD} {D : Ends} (h : EndOk K C F E D) (l : Le F F') : EndOk K C F' E D :=
  ⟨fun G ρ n σ H m => h.nx G ρ n σ H (l.tr m), h.rt, fun G ρ n σ H m => h.bk G ρ n σ H (l.tr m), fun G ρ n σ H m => h.ct G ρ n σ H (l.tr m)⟩
def tS (K : PySem.W.Frag) (C : Cn) (w : TDs) : TS := fun D σ H => ∃ F ρ n E, Rel K C F ρ n σ H ∧ EndOk K C F E D ∧ w E ρ n
structure US (X : Cx) (C : Cn) (s : Stmt) (w : TDs) : Prop where
  run : PS X s (tS X.K C w)
structure USs (X : Cx) (C : Cn) (s : List Stmt) (w : TDs) : Prop where
  run : PSs X s (tS X.K C w)
theorem PSw {X : Cx} {e : Stmt} {t t' : TS} (h : PS X e t) (w : ∀ D σ H, t' D σ H → t D σ H) : PS X e t' := ⟨fun pins s σ H D I q => h.run pins s σ H D I (w _ _ _ q)⟩
theorem PSsw {X : Cx} {e : List Stmt} {t t' : TS} (h : PSs X e t) (w : ∀ D σ H, t' D σ H → t D σ H) : PSs X e t' := ⟨fun pins s σ H D I q => h.run pins s σ H D I (w _ _ _ q)⟩
section
variable {K : PySem.W.Frag} {C : Cn} {F : Hp} {ρ : List S} {n : Nat} {σ : L2.St} {H : Hp}
/-- an own list changes -/
theorem Rel.mutO {i : Nat} {a : Addr} {xs ys : List D} {vs : List V} (r : Rel K C F ρ n σ H) (e : gt ρ i = .o a xs) (h : DdA K F vs ys) : Rel K C F (st ρ i (.o a ys)) n σ (upd H a (.lst vs)) := by
  have mem : a ∈ owns ρ := owns_mem.mpr ⟨i, by rw [e]; simp [own1]⟩
  obtain ⟨o1, o2, o3, o4⟩ := r.own a mem
  have q := r.sl i
  rw [e] at q
  obtain ⟨e1, _⟩ := q
  have hi := getD_lt e (fun z => nomatch z)
  obtain ⟨_, ws, e2, _⟩ : (σ.getD i none = some (.ref a)) ∧ ∃ vs, H a = some (.lst vs) ∧ DdA K F vs xs := by
    have q := r.sl i
    rw [e] at q
    exact q
  refine ⟨⟨r.x.up, r.x.le.updR o1, r.x.new, r.x.keep.mut o4, fun lm b ps q => by rw [upd_ne (fun z => by have w := r.x.tk lm b ps q; rw [z, e2] at w; cases w)]; exact r.x.tk lm b ps q⟩,
    C.kp n H _ (fun b o e3 m => by rw [upd_ne (fun z => by subst z; rcases m with m | m; exact o2 m; rw [e2] at e3; cases e3; exact m.1 _ rfl)]; exact e3) r.m, by rw [st_length]; exact r.len, fun j => ?_, r.apart.st (fun b m => .inl (by rw [e]; exact m)), fun b m => ?_⟩
  · rw [gt_st]
    by_cases z : j = i ∧ i < ρ.length
    · rw [if_pos z, z.1]
      exact ⟨e1, vs, upd_same, h⟩
    · rw [if_neg z]
      refine (r.sl j).step Le.rfl fun b m => upd_ne fun w => z ⟨r.apart j i b m (by rw [e, w]; simp [own1]), hi⟩
  · obtain ⟨j, m⟩ := owns_mem.mp m
    rw [gt_st] at m
    by_cases z : j = i ∧ i < ρ.length
    · rw [if_pos z] at m
      rw [show b = a by simpa [own1] using m]
      exact ⟨o1, o2, o3, o4⟩
    · rw [if_neg z] at m
      exact r.own b (owns_mem.mpr ⟨j, m⟩)
/-- a new list of one's own in a slot; a: its address, not frozen -/
theorem Rel.setO {i : Nat} {a : Addr} {xs : List D} {vs : List V} (r : Rel K C F ρ n σ H) (sub : ∀ b ∈ C.pol.ex, b ∈ C.dx) {H1 : Hp} (old : Fr0 H1 a) (k1 : KeepW C.pol.ex C.H0 H1) (m1 : ∃ n, C.M n H1) (ow : ∀ b ∈ owns ρ, ∃ o, H1 b = some o ∧ NTb o)
    (nf : Fr0 F a) (at_ : H a = some (.lst vs)) (h : DdA K F vs xs) : Rel K C F (st ρ i (.o a xs)) n (σ.set i (some (.ref a))) H := by
  refine r.set ⟨Eq.refl _, vs, at_, h⟩ fun b m => ?_
  rw [show b = a by simpa [own1] using m]
  have no : ∀ b, (∃ o, H1 b = some o ∧ NTb o) → b ≠ a := fun b ⟨o, e, t⟩ z => by
    subst z
    obtain ⟨ps, w⟩ := old o e
    exact t ps w
  have nd : a ∉ C.dx := fun z => by
    obtain ⟨n1, m1⟩ := m1
    exact no a (C.dm n1 H1 m1 a z) rfl
  refine ⟨.inr fun z => no a (ow a z) rfl, nf, nd, fun z => nd (sub a z), fun o e => ?_⟩
  by_cases t : ∃ ps, o = .tbl ps
  · exact t
  · obtain ⟨o', e', t'⟩ := k1.dom a o e fun ps z => t ⟨ps, z⟩
    exact absurd rfl (no a ⟨o', e', t'⟩)
end
/-! ### new lists -/
abbrev TDl := List S → Nat → (List D → Nat → Prop) → Prop
def tL (K : PySem.W.Frag) (C : Cn) (u : TDl) : TE := fun σ H Q => ∃ F ρ n, Rel K C F ρ n σ H ∧ u ρ n fun ds m => ∀ a vs F' H', Ex C.pol F H F' H' → C.M m H' → Fr0 H a → Fr0 F' a → H' a = some (.lst vs) → DdA K F' vs ds → Q (.ref a) H'
structure UL (X : Cx) (C : Cn) (e : Expr) (u : TDl) : Prop where
  run : PE X e (tL X.K C u)
  mo : Mo u
/-- what is needed of the ghost -/
structure Cn.Ok (C : Cn) : Prop where
  sub : ∀ b ∈ C.pol.ex, b ∈ C.dx
  fx : ∀ b ∈ C.pol.ex, Fr0 C.F0 b
  tr : ∀ b ∈ C.pol.ex, ∃ o, C.H0 b = some o ∧ NTb o
theorem Cn.Ok.fr {C : Cn} (ok : C.Ok) {F H : Hp} (x : Ex C.pol C.F0 C.H0 F H) : ∀ b ∈ C.pol.ex, Fr0 F b := fun b m o e => by
  obtain ⟨u, hu, t⟩ := ok.tr b m
  rw [x.new b u hu t] at e
  exact ok.fx b m o e
section
variable {X : Cx} {C : Cn} {e : Expr} {es : List Expr} {u : TD} {us : TDa} {ul : TDl} {pos : Pos}
def uOfL (ul : TDl) : TD := fun ρ n Q => ul ρ n fun ds m => Q (.lst ds) m
theorem UL.ue (h : UL X C e ul) : UE X C e (uOfL ul) := by
  refine ⟨PEw h.run fun σ H Q ⟨F, ρ, n, rel, q⟩ => ⟨F, ρ, n, rel, h.mo _ _ _ _ (fun ds m q a vs F1 H1 x1 m1 o1 o2 o3 d1 => ?_) q⟩, fun ρ n P Q i w => h.mo _ _ _ _ (fun ds m => i _ m) w⟩
  exact q (.ref a) (upd F1 a (.lst vs)) H1 (x1.frz o1 o2 o3) m1 (dd_lstN d1 o2)
def uLstL (us : TDa) : TDl := fun ρ n Q => us ρ n fun ds m => ds.length ≤ sizeLine ∧ Q ds m
theorem ul_lst (h : UA X C es us) : UL X C (.List es pos) (uLstL us) :=
  ⟨PEw (pe_lst h.run) fun σ H Q ⟨F, ρ, n, rel, q⟩ => ⟨F, ρ, n, rel, h.mo _ _ _ _ (fun ds m q vs F1 H1 x1 m1 d1 => ⟨by rw [d1.length]; exact q.1, fun p np =>
    q.2 _ vs F1 _ (x1.tr (Ex.newO x1.le np)) (C.stay m1 (Ex.newO x1.le np)) (x1.keep.none np) (x1.le.fr (fr0_none np)) upd_same d1⟩) q⟩, fun ρ n P Q i w => h.mo _ _ _ _ (fun d m q => ⟨q.1, i _ _ q.2⟩) w⟩

/-! ### blocks -/
variable {s : Stmt} {rest ss ss' : List Stmt} {w w' : TDs}
def uNext : TDs := fun E ρ n => E.nx ρ n
def uSeq (w w' : TDs) : TDs := fun E ρ n => w { E with nx := fun ρ' n' => w' E ρ' n' } ρ n
theorem us_nil : USs X C [] uNext := ⟨PSsw pss_nil fun D σ H ⟨F, ρ, n, E, rel, ok, q⟩ => ok.nx F ρ n σ H Le.rfl rel q⟩
theorem us_one (h : US X C s w) : USs X C [s] w := ⟨pss_one h.run⟩
theorem us_cons (h : US X C s w) (h' : USs X C rest w') : USs X C (s :: rest) (uSeq w w') :=
  ⟨PSsw (pss_cons h.run h'.run) fun D σ H ⟨F, ρ, n, E, rel, ok, q⟩ => ⟨F, ρ, n, { E with nx := fun ρ' n' => w' E ρ' n' }, rel,
    ⟨fun F' ρ' n' σ' H' l r q => ⟨F', ρ', n', E, r, ok.le l, q⟩, ok.rt, ok.bk, ok.ct⟩, q⟩⟩
def uBreak : TDs := fun E ρ n => E.bk ρ n
def uCont : TDs := fun E ρ n => E.ct ρ n
theorem us_pass : US X C (.Pass pos) uNext := ⟨PSw ps_pass fun D σ H ⟨F, ρ, n, E, rel, ok, q⟩ => ok.nx F ρ n σ H Le.rfl rel q⟩
theorem us_break : US X C (.Break pos) uBreak := ⟨PSw ps_break fun D σ H ⟨F, ρ, n, E, rel, ok, q⟩ => ok.bk F ρ n σ H Le.rfl rel q⟩
theorem us_continue : US X C (.Continue pos) uCont := ⟨PSw ps_continue fun D σ H ⟨F, ρ, n, E, rel, ok, q⟩ => ok.ct F ρ n σ H Le.rfl rel q⟩
theorem us_doc {x j pos pos'} : US X C (.Expr (.Constant (.str x) j pos) pos') uNext := ⟨PSw ps_doc fun D σ H ⟨F, ρ, n, E, rel, ok, q⟩ => ok.nx F ρ n σ H Le.rfl rel q⟩
def uDrop (u : TD) : TDs := fun E ρ n => u ρ n fun _ m => E.nx ρ m
theorem us_expr (h : UE X C e u) (hs : swapsWith e none pos.line X.env = pure false := by rfl) : US X C (.Expr e pos) (uDrop u) :=
  ⟨PSw (ps_expr h.run hs) fun D σ H ⟨F, ρ, n, E, rel, ok, q⟩ => ⟨F, ρ, n, rel, h.mo _ _ _ _ (fun d m q v F1 H1 x1 m1 d1 => ok.nx F1 ρ m σ H1 x1.up (rel.stepG x1 m1) q) q⟩⟩
def uRet (u : TD) : TDs := fun E ρ n => u ρ n E.rt
theorem us_ret (h : UE X C e u) : US X C (.Return (some e) pos) (uRet u) :=
  ⟨PSw (ps_ret h.run) fun D σ H ⟨F, ρ, n, E, rel, ok, q⟩ => ⟨F, ρ, n, rel, h.mo _ _ _ _ (fun d m q v F1 H1 x1 m1 d1 => ok.rt v d F1 m H1 (rel.x.tr x1) m1 d1 q) q⟩⟩
def uRetN : TDs := fun E _ n => E.rt .non n
theorem us_retN : US X C (.Return none pos) uRetN := ⟨PSw ps_retN fun D σ H ⟨F, ρ, n, E, rel, ok, q⟩ => ok.rt .non .non F n H rel.x rel.m .non q⟩
def uIfS (t : TDb) (w w' : TDs) : TDs := fun E ρ n => t ρ n fun b m => if b = true then w E ρ m else w' E ρ m
theorem us_if {c : Expr} {t : TDb} (hc : UT X C c t) (ha : USs X C ss w) (hb : USs X C ss' w') : US X C (.If c ss ss' pos) (uIfS t w w') := by
  refine ⟨PSw (ps_if hc.run ha.run hb.run) fun D σ H ⟨F, ρ, n, E, rel, ok, q⟩ => ⟨F, ρ, n, rel, hc.mo _ _ _ _ (fun b m q F1 H1 x1 m1 => ?_) q⟩⟩
  by_cases z : b = true
  · rw [if_pos z] at q ⊢
    exact ⟨F1, ρ, m, E, rel.stepG x1 m1, ok.le x1.up, q⟩
  · rw [if_neg z] at q ⊢
    exact ⟨F1, ρ, m, E, rel.stepG x1 m1, ok.le x1.up, q⟩
def uNever : TDs := fun _ _ _ => False
theorem us_never : US X C s uNever := ⟨PSw ps_never fun D σ H ⟨F, ρ, n, E, rel, ok, q⟩ => q⟩
theorem uss_never : USs X C ss uNever := ⟨PSsw pss_never fun D σ H ⟨F, ρ, n, E, rel, ok, q⟩ => q⟩
/-- slot i, an own list, is frozen ahead of the statement -/
def uFrz (i : Nat) (w : TDs) : TDs := fun E ρ n => match gt ρ i with
  | .o _ xs => w E (st ρ i (.d (.lst xs))) n
  | _ => False
theorem us_frz (i : Nat) (h : US X C s w) : US X C s (uFrz i w) := by
  refine ⟨PSw h.run fun D σ H ⟨F, ρ, n, E, rel, ok, q⟩ => ?_⟩
  unfold uFrz at q
  cases e : gt ρ i with
  | o a xs =>
    rw [e] at q
    obtain ⟨F1, up, rel1, _⟩ := rel.freeze e
    exact ⟨F1, _, n, E, rel1, ok.le up, q⟩
  | _ => rw [e] at q; exact q.elim
/-- what is no longer of use is forgotten ahead of the statement -/
def uForget (i : Nat) (w : TDs) : TDs := fun E ρ n => w E (st ρ i .u) n
theorem us_forget (i : Nat) (h : US X C s w) : US X C s (uForget i w) :=
  ⟨PSw h.run fun D σ H ⟨F, ρ, n, E, rel, ok, q⟩ => ⟨F, _, n, E, rel.drop, ok, q⟩⟩
/-! ### assignments -/
def uSet (i : Nat) (u : TD) : TDs := fun E ρ n => u ρ n fun d m => E.nx (st ρ i (.d d)) m
theorem us_set {i : Nat} {x : Str} {pos' : Pos} (he : UE X C e u) (hN : X.N.Nodup) (hi : X.N[i]? = some x := by rfl) (hx : Loc X.env.scope x := by first | exact .inl rfl | exact .inr rfl) (hs : swapsWith e (some (.Name x pos')) pos.line X.env = pure false := by rfl)
    (hf : X.fn x = true ∨ X.env.scope.names.lookup x = some .local := by first | exact .inl rfl | exact .inr rfl) : US X C (.Assign [.Name x pos'] e pos) (uSet i u) :=
  ⟨PSw (ps_set hN hi hx he.run hs hf) fun D σ H ⟨F, ρ, n, E, rel, ok, q⟩ => ⟨F, ρ, n, rel, he.mo _ _ _ _ (fun d m q v F1 H1 x1 m1 d1 => ok.nx F1 _ m _ H1 x1.up ((rel.stepG x1 m1).setD d1) q) q⟩⟩
def uSetO (i : Nat) (u : TDl) : TDs := fun E ρ n => u ρ n fun ds m => ∀ a, E.nx (st ρ i (.o a ds)) m
theorem us_setO {i : Nat} {x : Str} {pos' : Pos} (hc : C.Ok) (he : UL X C e ul) (hN : X.N.Nodup) (hi : X.N[i]? = some x := by rfl) (hx : Loc X.env.scope x := by first | exact .inl rfl | exact .inr rfl) (hs : swapsWith e (some (.Name x pos')) pos.line X.env = pure false := by rfl)
    (hf : X.fn x = true ∨ X.env.scope.names.lookup x = some .local := by first | exact .inl rfl | exact .inr rfl) : US X C (.Assign [.Name x pos'] e pos) (uSetO i ul) :=
  ⟨PSw (ps_set hN hi hx he.run hs hf) fun D σ H ⟨F, ρ, n, E, rel, ok, q⟩ => ⟨F, ρ, n, rel, he.mo _ _ _ _ (fun ds m q a vs F1 H1 x1 m1 o1 o2 o3 d1 => ok.nx F1 _ m _ H1 x1.up
    ((rel.stepG x1 m1).setO hc.sub o1 rel.x.keep ⟨n, rel.m⟩ (fun b z => rel.ownAt z) o2 o3 d1) (q a)) q⟩⟩
abbrev TDg := D → List S → (List S → Prop) → Prop
abbrev TDgs := List D → List S → (List S → Prop) → Prop
/-- but for the slots ids the same -/
def But (ids : List Nat) (σ σ' : L2.St) : Prop := σ'.length = σ.length ∧ ∀ j, j ∉ ids → σ'[j]? = σ[j]?
theorem But.rfl {ids : List Nat} {σ : L2.St} : But ids σ σ := ⟨Eq.refl _, fun _ _ => Eq.refl _⟩
theorem But.tr {a b : List Nat} {σ σ' σ2 : L2.St} (h : But a σ σ') (h' : But b σ' σ2) : But (a ++ b) σ σ2 :=
  ⟨h'.1.trans h.1, fun j n => (h'.2 j fun z => n (List.mem_append_right _ z)).trans (h.2 j fun z => n (List.mem_append_left _ z))⟩
def tG (K : PySem.W.Frag) (C : Cn) (ids : List Nat) (g : TDg) : TG := fun v σ H Q => ∃ F ρ n d, Rel K C F ρ n σ H ∧ Dd K F v d ∧ g d ρ fun ρ' => ∀ σ', Rel K C F ρ' n σ' H → But ids σ σ' → Q σ' H
def tGs (K : PySem.W.Frag) (C : Cn) (ids : List Nat) (g : TDgs) : TGs := fun vs σ H Q => ∃ F ρ n ds, Rel K C F ρ n σ H ∧ DdA K F vs ds ∧ g ds ρ fun ρ' => ∀ σ', Rel K C F ρ' n σ' H → But ids σ σ' → Q σ' H
def MoG (g : TDg) : Prop := ∀ d ρ (P Q : List S → Prop), (∀ ρ', P ρ' → Q ρ') → g d ρ P → g d ρ Q
def MoGs (g : TDgs) : Prop := ∀ d ρ (P Q : List S → Prop), (∀ ρ', P ρ' → Q ρ') → g d ρ P → g d ρ Q
structure UG (X : Cx) (C : Cn) (tg : Expr) (ids : List Nat) (g : TDg) : Prop where
  run : PG X tg (tG X.K C ids g)
  mo : MoG g
structure UGs (X : Cx) (C : Cn) (tg : List Expr) (ids : List Nat) (g : TDgs) : Prop where
  run : PGs X tg (tGs X.K C ids g)
  mo : MoGs g
theorem PGw {X : Cx} {e : Expr} {t t' : TG} (h : PG X e t) (w : ∀ v σ H Q, t' v σ H Q → t v σ H Q) : PG X e t' := ⟨fun pins s σ H v u Q I r q => h.run pins s σ H v u Q I r (w _ _ _ _ q)⟩
theorem PGsw {X : Cx} {e : List Expr} {t t' : TGs} (h : PGs X e t) (w : ∀ v σ H Q, t' v σ H Q → t v σ H Q) : PGs X e t' := ⟨fun pins s σ H v u Q I r q => h.run pins s σ H v u Q I r (w _ _ _ _ q)⟩
def uGn (i : Nat) : TDg := fun d ρ Q => Q (st ρ i (.d d))
theorem ug_name {i : Nat} {x : Str} (hN : X.N.Nodup) (hi : X.N[i]? = some x := by rfl) (hx : Loc X.env.scope x := by first | exact .inl rfl | exact .inr rfl) (hf : X.fn x = true ∨ X.env.scope.names.lookup x = some .local := by first | exact .inl rfl | exact .inr rfl) : UG X C (.Name x pos) [i] (uGn i) :=
  ⟨PGw (pg_name hN hi hx hf) fun v σ H Q ⟨F, ρ, n, d, rel, dd, q⟩ => q _ (rel.setD dd) ⟨by simp, fun j nj => by rw [List.getElem?_set_ne]; exact fun z => nj (by simp [z])⟩, fun d ρ P Q h => h _⟩
def uG0 : TDgs := fun ds ρ Q => match ds with
  | [] => Q ρ
  | _ => False
def uG1 (g : TDg) (gs : TDgs) : TDgs := fun ds ρ Q => match ds with
  | d :: r => g d ρ fun ρ' => gs r ρ' Q
  | [] => False
theorem ug_nil : UGs X C [] [] uG0 := by
  refine ⟨PGsw pgs_nil fun v σ H Q ⟨F, ρ, n, d, rel, dd, q⟩ => ?_, fun d ρ P Q h => by cases d <;> first | exact h _ | exact fun z => z⟩
  cases dd with
  | nil => exact ⟨rfl, q _ rel But.rfl⟩
  | cons _ _ => exact q.elim
theorem ug_cons {es : List Expr} {g : TDg} {gs : TDgs} {i1 i2 : List Nat} (h1 : UG X C e i1 g) (h2 : UGs X C es i2 gs) (hs : (assignEach (e :: es) X.env).map (·.2) = assign e X.env :: (assignEach es X.env).map (·.2) := by rfl) : UGs X C (e :: es) (i1 ++ i2) (uG1 g gs) := by
  refine ⟨PGsw (pgs_cons h1.run h2.run hs) fun v σ H Q ⟨F, ρ, n, d, rel, dd, q⟩ => ?_, fun d ρ P Q h => ?_⟩
  · cases dd with
    | nil => exact q.elim
    | cons a b => exact ⟨_, _, rfl, F, ρ, n, _, rel, a, h1.mo _ _ _ _ (fun ρ' q σ' r' b1 => ⟨F, ρ', n, _, r', b, h2.mo _ _ _ _ (fun ρ2 q σ2 r2 b2 => q σ2 r2 (b1.tr b2)) q⟩) q⟩
  · cases d with
    | nil => exact fun z => z
    | cons a b => exact h1.mo _ _ _ _ fun ρ' => h2.mo _ _ _ _ h
def uGt (k : Nat) (gs : TDgs) : TDg := fun d ρ Q => match d with
  | .tup ds => ds.length = k ∧ gs ds ρ Q
  | _ => False
theorem ug_tup {es : List Expr} {j k : Nat} {gs : TDgs} {ids : List Nat} (h : UGs X C es ids gs) (hc : X.calm = true := by rfl) (hn : (assignEach es X.env).length = k := by rfl) (hst : (assignEach es X.env).findIdx? (·.1) = none := by rfl) : UG X C (.Tuple es j pos) ids (uGt k gs) := by
  refine ⟨PGw (pg_tup hc h.run hn hst) fun v σ H Q ⟨F, ρ, n, d, rel, dd, q⟩ => ?_, fun d ρ P Q i => ?_⟩
  · cases dd with
    | tup hq ha => exact ⟨_, _, rfl, SqT.le rel.le hq, by rw [ha.length]; exact q.1, F, ρ, n, _, rel, ha, q.2⟩
    | _ => exact q.elim
  · cases d <;> first | exact fun z => z | exact fun z => ⟨z.1, h.mo _ _ _ _ i z.2⟩
def uAsg (u : TD) (g : TDg) : TDs := fun E ρ n => u ρ n fun d m => g d ρ fun ρ' => E.nx ρ' m
theorem us_asg {tg : Expr} {g : TDg} {ids : List Nat} (he : UE X C e u) (hg : UG X C tg ids g) (hs : swapsWithSole [tg] e pos.line X.env = pure false := by rfl) (hw : swappedStores [tg] e X.env = pure none := by rfl)
    (h1 : (assignEach [tg] X.env).map (·.2) = [assign tg X.env] := by rfl) : US X C (.Assign [tg] e pos) (uAsg u g) :=
  ⟨PSw (ps_asg he.run hg.run hs hw h1) fun D σ H ⟨F, ρ, n, E, rel, ok, q⟩ => ⟨F, ρ, n, rel, he.mo _ _ _ _ (fun d m q v F1 H1 x1 m1 d1 => ⟨F1, ρ, m, d, rel.stepG x1 m1, d1, hg.mo _ _ _ _ (fun ρ' q σ' r' _ => ok.nx F1 ρ' m σ' H1 x1.up r' q) q⟩) q⟩⟩
def uPar (i j : Nat) (us : TDa) : TDs := fun E ρ n => us ρ n fun ds m => match ds with
  | [a, b] => E.nx (st (st ρ i (.d a)) j (.d b)) m
  | _ => False
theorem us_par {i j : Nat} {x y : Str} {a b : Expr} {px py pt : Pos} {kt k2 pt2} (ha : UA X C [a, b] us) (hN : X.N.Nodup) (hc : X.calm = true := by rfl) (hi : X.N[i]? = some x := by rfl) (hj : X.N[j]? = some y := by rfl) (hij : i ≠ j := by decide)
    (hx : X.env.scope.names.lookup x = some .local := by rfl) (hy : X.env.scope.names.lookup y = some .local := by rfl)
    (hw : swappedStores [.Tuple [.Name x px, .Name y py] kt pt] (.Tuple [a, b] k2 pt2) X.env = pure (some [x, y]) := by rfl)
    (hs : swapsWithSole [.Tuple [.Name x px, .Name y py] kt pt] (.Tuple [a, b] k2 pt2) pos.line X.env = pure false := by rfl) :
    US X C (.Assign [.Tuple [.Name x px, .Name y py] kt pt] (.Tuple [a, b] k2 pt2) pos) (uPar i j us) := by
  refine ⟨PSw (ps_par hc hN hi hj hij hx hy ha.run hw hs) fun D σ H ⟨F, ρ, n, E, rel, ok, q⟩ => ⟨F, ρ, n, rel, ha.mo _ _ _ _ (fun ds m q vs F1 H1 x1 m1 d1 => ?_) q⟩⟩
  match ds, d1, q with
  | [d, d'], .cons a1 (.cons a2 .nil), q => exact ⟨_, _, rfl, ok.nx F1 _ m _ H1 x1.up (((rel.stepG x1 m1).setD a1).setD a2) q⟩
def uPar3 (i j l : Nat) (us : TDa) : TDs := fun E ρ n => us ρ n fun ds m => match ds with
  | [a, b, c] => E.nx (st (st (st ρ i (.d a)) j (.d b)) l (.d c)) m
  | _ => False
def uAug (i : Nat) (r : D → D → (D → Prop) → Prop) (u : TD) : TDs := fun E ρ n => match gt ρ i with
  | .d x => u ρ n fun d m => r x d fun z => E.nx (st ρ i (.d z)) m
  | _ => False
structure IpD (X : Cx) (op : Operator) (r : D → D → (D → Prop) → Prop) : Prop where
  mo : MoR r
  run : PIp X op fun x y H Q => ∃ F dx dy, Le F H ∧ Dd X.K F x dx ∧ Dd X.K F y dy ∧ r dx dy fun d => ∀ v F' H', Ex p0 F H F' H' → Dd X.K F' v d → Q v H'
theorem us_aug {i : Nat} {x : Str} {op : Operator} {r : D → D → (D → Prop) → Prop} {pos' : Pos} (ho : IpD X op r) (he : UE X C e u) (hN : X.N.Nodup) (hi : X.N[i]? = some x := by rfl) (hx : Loc X.env.scope x := by first | exact .inl rfl | exact .inr rfl)
    (hf : X.fn x = true ∨ X.env.scope.names.lookup x = some .local := by first | exact .inl rfl | exact .inr rfl) : US X C (.AugAssign (.Name x pos') op e pos) (uAug i r u) := by
  refine ⟨PSw (ps_aug hN hi hx he.run ho.run hf) fun D σ H ⟨F, ρ, n, E, rel, ok, q⟩ => ?_⟩
  unfold uAug at q
  have s := rel.sl i
  cases e : gt ρ i with
  | d x =>
    rw [e] at q s
    obtain ⟨y, e2, dd⟩ := s
    exact ⟨y, getD_some e2, F, ρ, n, rel, he.mo _ _ _ _ (fun d m q v F1 H1 x1 m1 d1 => ⟨F1, x, d, x1.le, dd.le x1.up, d1, ho.mo _ _ _ _ (fun z q w F2 H2 x2 d2 => ok.nx F2 _ m _ H2 (x1.up.tr x2.up) (((rel.stepG x1 m1).step x2).setD d2) q) q⟩) q⟩
  | _ => rw [e] at q; exact q.elim
/-! ### append to an own list -/
def uApp (i : Nat) (u : TD) : TDs := fun E ρ n => match gt ρ i with
  | .o a xs => u ρ n fun d m => xs.length < sizeLine ∧ E.nx (st ρ i (.o a (xs ++ [d]))) m
  | _ => False
theorem us_app {i : Nat} {x : Str} {px ax cx : Pos} (he : UE X C e u) (hN : X.N[i]? = some x := by rfl) (hv : Vis X.env.scope x := by first | exact .inl rfl | exact .inr (.inl rfl) | exact .inr (.inr rfl)) (hd : (x == ("__debug__" : Str)) = false := by decide) (hcd : (x == ("__classdict__" : Str)) = false := by decide)
    (hbase : attributeBase (.Name x px) "append" X.env (eval (.Name x px) X.env) = eval (.Name x px) X.env := by rfl)
    (hfew : ((backTo cx (starEach [e] X.env)).all (fun x => !x.1) && (backToKw cx (keywordEach [] X.env)).all (fun x => x.1.isSome)
      && decide ([e].length + ([] : List Keyword).length + (if ([] : List Keyword).isEmpty then 0 else 1) < 30)) = true := by rfl)
    (hline : (ax.endLine == cx.line) = true := by rfl) (h1 : starEach [e] X.env = (false, eval e X.env) :: starEach [] X.env := by rfl) (hplain : (backTo cx (starEach [] X.env)).any (·.1) = false := by rfl)
    (hs : swapsWith (.Call (.Attribute (.Name x px) "append" ax) [e] [] cx) none pos.line X.env = pure false := by rfl) : US X C (.Expr (.Call (.Attribute (.Name x px) "append" ax) [e] [] cx) pos) (uApp i u) := by
  refine ⟨PSw (ps_expr (pe_bm PySem.F.plainAttrs_list PySem.F.slot_list_append PySem.F.type_list_append mt_append (pe_var (i := i) hN hv hd hcd) (pa_cons he.run pa_nil h1) hbase hfew hline h1 hplain) hs) fun D σ H ⟨F, ρ, n, E, rel, ok, q⟩ => ?_⟩
  unfold uApp at q
  have s := rel.sl i
  cases e : gt ρ i with
  | o a xs =>
    rw [e] at q s
    obtain ⟨e2, vs, e3, e4⟩ := s
    refine ⟨.ref a, getD_some e2, .inl ⟨rfl, _, SqL.of e3⟩, F, ρ, n, rel, he.mo _ _ _ _ (fun d m q v F1 H1 x1 m1 d1 => ?_) q⟩
    have r1 := rel.stepG x1 m1
    have s1 := r1.sl i
    rw [e] at s1
    obtain ⟨_, vs1, e5, e6⟩ := s1
    refine ⟨a, vs1, v, rfl, rfl, e5, by rw [e6.length]; exact q.1, ok.nx F1 _ m _ _ x1.up ?_ q.2⟩
    exact r1.mutO e (e6.append (.cons d1 .nil))
  | _ => rw [e] at q; exact q.elim
/-- x = xs.pop(), xs.pop(): the last one of an own list -/
def uPopS (i j : Nat) : TDs := fun E ρ n => match gt ρ i with
  | .o a xs => ∃ ys y, xs = ys ++ [y] ∧ E.nx (st (st ρ i (.o a ys)) j (.d y)) n
  | _ => False
theorem dda_snoc {K : PySem.W.Frag} {F : Hp} {ys : List D} {y : D} {vs : List V} (h : DdA K F vs (ys ++ [y])) : ∃ ws w, vs = ws ++ [w] ∧ DdA K F ws ys ∧ Dd K F w y := by
  induction ys generalizing vs with
  | nil =>
    cases h with
    | cons a b => cases b; exact ⟨[], _, rfl, .nil, a⟩
  | cons z r ih =>
    cases h with
    | cons a b =>
      obtain ⟨ws, w, rfl, h1, h2⟩ := ih b
      exact ⟨_ :: ws, w, rfl, .cons a h1, h2⟩
theorem us_pop {i j : Nat} {x y : Str} {px ax cx py : Pos} (hN : X.N.Nodup) (hi : X.N[i]? = some x := by rfl) (hj : X.N[j]? = some y := by rfl) (hv : Vis X.env.scope x := by first | exact .inl rfl | exact .inr (.inl rfl) | exact .inr (.inr rfl)) (hd : (x == ("__debug__" : Str)) = false := by decide) (hcd : (x == ("__classdict__" : Str)) = false := by decide)
    (hy : Loc X.env.scope y := by first | exact .inl rfl | exact .inr rfl) (hbase : attributeBase (.Name x px) "pop" X.env (eval (.Name x px) X.env) = eval (.Name x px) X.env := by rfl) (hline : (ax.endLine == cx.line) = true := by rfl)
    (hs : swapsWith (.Call (.Attribute (.Name x px) "pop" ax) [] [] cx) (some (.Name y py)) pos.line X.env = pure false := by rfl) (hf : X.fn y = true ∨ X.env.scope.names.lookup y = some .local := by first | exact .inl rfl | exact .inr rfl) :
    US X C (.Assign [.Name y py] (.Call (.Attribute (.Name x px) "pop" ax) [] [] cx) pos) (uPopS i j) := by
  refine ⟨PSw (ps_set hN hj hy (pe_bm0 PySem.F.plainAttrs_list PySem.F.slot_list_pop PySem.F.type_list_pop mt_pop (pe_var (i := i) hi hv hd hcd) hbase hline) hs hf) fun D σ H ⟨F, ρ, n, E, rel, ok, q⟩ => ?_⟩
  unfold uPopS at q
  have s := rel.sl i
  cases e : gt ρ i with
  | o a xs =>
    rw [e] at q s
    obtain ⟨e2, vs, e3, e4⟩ := s
    obtain ⟨ys, y, rfl, q⟩ := q
    obtain ⟨ws, w, rfl, h1, h2⟩ := dda_snoc e4
    refine ⟨.ref a, getD_some e2, .inl ⟨rfl, _, SqL.of e3⟩, a, _, w, rfl, rfl, e3, by simp, ?_⟩
    rw [List.dropLast_concat]
    exact ok.nx F _ n _ _ Le.rfl ((rel.mutO e h1).setD h2) q
  | _ => rw [e] at q; exact q.elim
/-- xs[k] of an own list -/
def uIxO (i : Nat) (u : TD) : TD := fun ρ n Q => match gt ρ i with
  | .o _ xs => u ρ n fun d m => match d with
    | .int k => match atI xs k with
      | some y => Q y m
      | none => False
    | _ => False
  | _ => False
theorem DdA.atI {K : PySem.W.Frag} {F : Hp} {vs : List V} {ds : List D} {k : Int} {d : D} (h : DdA K F vs ds) (e : atI ds k = some d) : ∃ v, L2.atI vs k = some v ∧ Dd K F v d := by
  unfold L2.atI at e ⊢
  rw [← h.length] at e
  cases q : ixN vs.length k with
  | none => rw [q] at e; cases e
  | some j =>
    rw [q] at e
    exact h.get' e
theorem ue_ixO {i : Nat} {x : Str} {px : Pos} (he : UE X C e u) (hN : X.N[i]? = some x := by rfl) (hv : Vis X.env.scope x := by first | exact .inl rfl | exact .inr (.inl rfl) | exact .inr (.inr rfl)) (hd : (x == ("__debug__" : Str)) = false := by decide) (hcd : (x == ("__classdict__" : Str)) = false := by decide)
    (hp : PlainIx e := by exact fun _ _ => rfl) : UE X C (.Subscript (.Name x px) e pos) (uIxO i u) := by
  refine ⟨PEw (pe_ix ix_list (pe_var (i := i) hN hv hd hcd) he.run hp) fun σ H Q ⟨F, ρ, n, rel, q⟩ => ?_, fun ρ n P Q i w => ?_⟩
  · unfold uIxO at q
    have s := rel.sl i
    cases e : gt ρ i with
    | o a xs =>
      rw [e] at q s
      obtain ⟨e2, vs, e3, e4⟩ := s
      refine ⟨.ref a, getD_some e2, F, ρ, n, rel, he.mo _ _ _ _ (fun d m q v F1 H1 x1 m1 d1 => ?_) q⟩
      have r1 := rel.stepG x1 m1
      have s1 := r1.sl i
      rw [e] at s1
      obtain ⟨_, vs1, e5, e6⟩ := s1
      cases d with
      | int k =>
        cases d1
        dsimp only at q
        cases z : atI xs k with
        | none => rw [z] at q; exact q.elim
        | some y =>
          rw [z] at q
          obtain ⟨w, h1, h2⟩ := e6.atI z
          exact ⟨a, vs1, k, w, rfl, rfl, SqL.of e5, h1, q w F1 H1 x1 m1 h2⟩
      | _ => exact q.elim
    | _ => rw [e] at q; exact q.elim
  · unfold uIxO at w ⊢
    split <;> rename_i e <;> simp only [e] at w
    · refine he.mo _ _ _ _ (fun d m q => ?_) w
      cases d with
      | int k =>
        dsimp only at q ⊢
        split <;> rename_i z <;> simp only [z] at q
        · exact i _ _ q
      | _ => exact q
/-! ### for, while -/
abbrev TDi := List S → Nat → (List D → Nat → Prop) → Prop
/-- the iterator J gives the things ds -/
def WalkD (K : PySem.W.Frag) (J : It) (F : Hp) (ds : List D) : Prop := ∃ (G : Hp → Prop) (Y : Nat → Hp → V → Hp → Prop), Walk J ds.length G Y ∧ (∀ H, Le F H → G H) ∧
  ∀ i H x H' F1, Le F F1 → Le F1 H → Y i H x H' → ∃ F2 d, ds[i]? = some d ∧ Ex p0 F1 H F2 H' ∧ Dd K F2 x d
def tI (K : PySem.W.Frag) (C : Cn) (u : TDi) : TI := fun σ H R => ∃ F ρ n, Rel K C F ρ n σ H ∧ u ρ n fun ds m => ∀ J F' H', Ex C.pol F H F' H' → C.M m H' → WalkD K J F' ds → R J H'
structure UI (X : Cx) (C : Cn) (tg it : Expr) (u : TDi) : Prop where
  run : PI X tg it (tI X.K C u)
  mo : Mo u
theorem PIw {X : Cx} {tg e : Expr} {t t' : TI} (h : PI X tg e t) (w : ∀ σ H Q, t' σ H Q → t σ H Q) : PI X tg e t' := ⟨fun pins s σ H R I q => h.run pins s σ H R I (w _ _ _ q)⟩
def uFor (ui : TDi) (g : TDg) (wb : TDs) : TDs := fun E ρ n => ui ρ n fun ds m => ∃ P : Nat → List S → Nat → Prop, P 0 ρ m ∧
  (∀ i x ρ' k, ds[i]? = some x → P i ρ' k → g x ρ' fun ρ2 => wb { E with nx := P (i + 1), ct := P (i + 1), bk := E.nx } ρ2 k) ∧ ∀ ρ' k, P ds.length ρ' k → E.nx ρ' k
theorem us_for {iter tg : Expr} {ui : TDi} {g : TDg} {wb : TDs} {ids : List Nat} (hi : UI X C tg iter ui) (hg : UG X C tg ids g) (hb : USs X C ss wb) (hp : PassesOwn (model X.prog X.w) X.A X.env X.xe := by exact PassesOwn.never) (hc : X.calm = true := by rfl) (hs : ∀ x, foldedSetIterable iter X.env x = pure x := by intro _; rfl) :
    US X C (.For tg iter ss [] pos) (uFor ui g wb) := by
  refine ⟨PSw (ps_for hp hc hi.run hg.run hb.run hs) fun D σ H ⟨F, ρ, n, E, rel, ok, q⟩ => ⟨F, ρ, n, rel, hi.mo _ _ _ _ (fun ds m q J F1 H1 x1 m1 wd => ?_) q⟩⟩
  obtain ⟨P, p0, ps, pd⟩ := q
  obtain ⟨G, Y, w, wg, wy⟩ := wd
  refine for_it w (fun i σ' H' => ∃ F' ρ' k, Le F1 F' ∧ Rel X.K C F' ρ' k σ' H' ∧ P i ρ' k) ⟨F1, ρ, m, Le.rfl, rel.stepG x1 m1, p0⟩ (fun i σ' H' _ ⟨F', ρ', k, l, r, _⟩ => wg H' (l.tr r.le)) (fun i x σ' H' H2 hi2 ⟨F', ρ', k, l, r, p⟩ y => ?_) (fun σ' H' ⟨F', ρ', k, l, r, p⟩ => ?_)
  · obtain ⟨F2, d, hd, x2, dd⟩ := wy i H' x H2 F' l r.le y
    refine ⟨F2, ρ', k, d, r.step x2, dd, hg.mo _ _ _ _ (fun ρ2 q σ2 r2 _ => ?_) (ps i d ρ' k hd p)⟩
    refine ⟨F2, ρ2, k, { E with nx := P (i + 1), ct := P (i + 1), bk := E.nx }, r2, ⟨?_, ok.rt, ?_, ?_⟩, q⟩
    · exact fun F3 ρ3 k3 σ3 H3 l3 r3 p3 => ⟨F3, ρ3, k3, (l.tr x2.up).tr l3, r3, p3⟩
    · exact fun F3 ρ3 k3 σ3 H3 l3 r3 p3 => ok.nx F3 ρ3 k3 σ3 H3 (((x1.up.tr l).tr x2.up).tr l3) r3 p3
    · exact fun F3 ρ3 k3 σ3 H3 l3 r3 p3 => ⟨F3, ρ3, k3, (l.tr x2.up).tr l3, r3, p3⟩
  · exact ok.nx F' ρ' k σ' H' (x1.up.tr l) r (pd ρ' k p)
def uWhile (t : TDb) (wb : TDs) : TDs := fun E ρ n => ∃ W : Nat → List S → Nat → Prop, (∃ m, W m ρ n) ∧ ∀ m ρ n, W m ρ n →
  t ρ n fun b k => if b = true then wb { E with nx := fun ρ' n' => ∃ m', m' < m ∧ W m' ρ' n', ct := fun ρ' n' => ∃ m', m' < m ∧ W m' ρ' n', bk := E.nx } ρ k else E.nx ρ k
theorem us_while {c : Expr} {t : TDb} {wb : TDs} (hc : UT X C c t) (hb : USs X C ss wb) (hp : PassesOwn (model X.prog X.w) X.A X.env X.xe := by exact PassesOwn.never) : US X C (.While c ss [] pos) (uWhile t wb) := by
  refine ⟨PSw (ps_while hp hc.run hb.run) fun D σ H ⟨F, ρ, n, E, rel, ok, q⟩ => ?_⟩
  obtain ⟨W, ⟨m0, w0⟩, turn⟩ := q
  refine ⟨fun m σ' H' => ∃ F' ρ' k, Le F F' ∧ Rel X.K C F' ρ' k σ' H' ∧ W m ρ' k, ⟨m0, F, ρ, n, Le.rfl, rel, w0⟩, fun m σ' H' ⟨F', ρ', k, l, r, wk⟩ => ?_⟩
  refine ⟨F', ρ', k, r, hc.mo _ _ _ _ (fun b k2 q F2 H2 x2 m2 => ?_) (turn m ρ' k wk)⟩
  by_cases z : b = true
  · rw [if_pos z] at q ⊢
    refine ⟨fun σ3 H3 => ∃ m', m' < m ∧ ∃ F3 ρ3 k3, Le F F3 ∧ Rel X.K C F3 ρ3 k3 σ3 H3 ∧ W m' ρ3 k3, fun σ3 H3 ⟨m', hm, z⟩ => ⟨m', hm, z⟩, F2, ρ', k2, { E with nx := fun ρ' n' => ∃ m', m' < m ∧ W m' ρ' n', ct := fun ρ' n' => ∃ m', m' < m ∧ W m' ρ' n', bk := E.nx }, r.stepG x2 m2, ⟨?_, ok.rt, ?_, ?_⟩, q⟩
    · exact fun F3 ρ3 k3 σ3 H3 l3 r3 ⟨m', hm, p3⟩ => ⟨m', hm, F3, ρ3, k3, (l.tr x2.up).tr l3, r3, p3⟩
    · exact fun F3 ρ3 k3 σ3 H3 l3 r3 p3 => ok.nx F3 ρ3 k3 σ3 H3 ((l.tr x2.up).tr l3) r3 p3
    · exact fun F3 ρ3 k3 σ3 H3 l3 r3 ⟨m', hm, p3⟩ => ⟨m', hm, F3, ρ3, k3, (l.tr x2.up).tr l3, r3, p3⟩
  · rw [if_neg z] at q ⊢
    exact ok.nx F2 ρ' k2 σ' H2 (l.tr x2.up) (r.stepG x2 m2) q
/-! ### iterables -/
theorem walkD_seq {K : PySem.W.Frag} {J : It} {F : Hp} {ds : List D} {vs : List V} {G : Hp → Prop} (w : Walk J vs.length G (YAt vs)) (g : ∀ H, Le F H → G H) (h : DdA K F vs ds) : WalkD K J F ds := by
  refine ⟨G, YAt vs, by rw [← h.length]; exact w, g, fun i H x H' F1 l l1 y => ?_⟩
  obtain ⟨rfl, y⟩ := y
  obtain ⟨d, e, dd⟩ := h.get y
  exact ⟨F1, d, e, Ex.rfl l1, dd.le l⟩
def uSeqI (u : TD) : TDi := fun ρ n Q => u ρ n fun d m => match d with
  | .lst ds => Q ds m
  | .tup ds => Q ds m
  | _ => False
theorem mo_SeqI (h : Mo u) : Mo (uSeqI u) := fun ρ n P Q i w => h _ _ _ _ (fun d m q => by cases d <;> first | exact i _ _ q | exact q) w
def uLI (u : TD) : TDi := fun ρ n Q => u ρ n fun d m => match d with
  | .lst ds => Q ds m
  | _ => False
def uTI (u : TD) : TDi := fun ρ n Q => u ρ n fun d m => match d with
  | .tup ds => Q ds m
  | _ => False
theorem mo_LI (h : Mo u) : Mo (uLI u) := fun ρ n P Q i w => h _ _ _ _ (fun d m q => by cases d <;> first | exact i _ _ q | exact q) w
theorem mo_TI (h : Mo u) : Mo (uTI u) := fun ρ n P Q i w => h _ _ _ _ (fun d m q => by cases d <;> first | exact i _ _ q | exact q) w
theorem ui_list {tg : Expr} (h : UE X C e u) : UI X C tg e (uLI u) := by
  refine ⟨PIw (pi_list h.run) fun σ H R ⟨F, ρ, n, rel, q⟩ => ⟨F, ρ, n, rel, h.mo _ _ _ _ (fun d m q v F1 H1 x1 m1 d1 => ?_) q⟩, mo_LI h.mo⟩
  cases d1 with
  | lst hq ha => exact ⟨_, rfl, ⟨_, SqL.le x1.le hq⟩, q _ F1 H1 x1 m1 (walkD_seq walk_list (fun H' l => SqL.le l hq) ha)⟩
  | _ => exact q.elim
theorem ui_tup {tg : Expr} (h : UE X C e u) : UI X C tg e (uTI u) := by
  refine ⟨PIw (pi_tup h.run) fun σ H R ⟨F, ρ, n, rel, q⟩ => ⟨F, ρ, n, rel, h.mo _ _ _ _ (fun d m q v F1 H1 x1 m1 d1 => ?_) q⟩, mo_TI h.mo⟩
  cases d1 with
  | tup hq ha => exact ⟨_, rfl, ⟨_, SqT.le x1.le hq⟩, q _ F1 H1 x1 m1 (walkD_seq walk_tup (fun H' l => SqT.le l hq) ha)⟩
  | _ => exact q.elim
/-- a row, a list or a tuple -/
theorem pi_row {tg : Expr} {t : TE} (h : PE X e t) : PI X tg e (fun σ H R => t σ H fun x H1 => ∃ a, x = .ref a ∧ (((∃ xs, SqL X.K H1 a xs) ∧ R (Itl X.K a) H1) ∨ ((∃ xs, SqT X.K H1 a xs) ∧ R (Itt X.K a) H1))) := by
  refine ⟨fun pins s0 σ H R inv0 hh => thn (h.run pins s0 σ H _ inv0 hh) fun w st ⟨y, Hy, inv, rel, b, eb, alt⟩ => ?_⟩
  subst eb
  obtain rfl : w = Value.ref b := rel
  have new : ∀ c ∈ [st.heap.objs.size], FpOk X pins Hy c := fun c hc => by
    obtain rfl : c = st.heap.objs.size := by simpa using hc
    exact inv.fpOk (Nat.le_refl _) (inv.hok.fresh (Nat.le_refl _))
  rcases alt with ⟨⟨xs, hx⟩, k⟩ | ⟨⟨xs, hx⟩, k⟩
  · obtain ⟨its, _, pl, _⟩ := inv.list hx
    exact wpAny_pyIter_list pl.isList ⟨_, _, _, _, Hy, rfl, inv.kept (t' := st.toks) fun _ _ old => Heap.get?_push_of_some _ old, turn_list b _, ⟨_, Heap.get?_push_size _ rfl, rfl, rfl⟩, new, k⟩
  · obtain ⟨its, _, pl, _⟩ := inv.tuple hx
    exact wpAny_pyIter_tuple (show st.heap.IsTuple b its.toArray from pl) ⟨_, _, _, _, Hy, rfl, inv.kept (t' := st.toks) fun _ _ old => Heap.get?_push_of_some _ old, turn_tuple b _, ⟨_, Heap.get?_push_size _ rfl, rfl, rfl⟩, new, k⟩
theorem ui_row {tg : Expr} (h : UE X C e u) : UI X C tg e (uSeqI u) := by
  refine ⟨PIw (pi_row h.run) fun σ H R ⟨F, ρ, n, rel, q⟩ => ⟨F, ρ, n, rel, h.mo _ _ _ _ (fun d m q v F1 H1 x1 m1 d1 => ?_) q⟩, mo_SeqI h.mo⟩
  cases d1 with
  | tup hq ha => exact ⟨_, rfl, .inr ⟨⟨_, SqT.le x1.le hq⟩, q _ F1 H1 x1 m1 (walkD_seq walk_tup (fun H' l => SqT.le l hq) ha)⟩⟩
  | lst hq ha => exact ⟨_, rfl, .inl ⟨⟨_, SqL.le x1.le hq⟩, q _ F1 H1 x1 m1 (walkD_seq walk_list (fun H' l => SqL.le l hq) ha)⟩⟩
  | _ => exact q.elim
/-- the ints from lo on, n of them -/
def rgD (lo : Int) (n : Nat) : List D := (List.range n).map fun (i : Nat) => .int (lo + i)
theorem walkD_range {K : PySem.W.Frag} {F : Hp} {lo : Int} {n : Nat} : WalkD K (Itr lo n) F (rgD lo n) := by
  refine ⟨fun _ => True, fun i H x H' => (H' = H ∧ x = .int (lo + i)) ∧ i < n, by
    unfold rgD; rw [List.length_map, List.length_range]
    exact ⟨fun _ _ hi _ => hi, fun _ _ => Nat.le_refl _, fun _ _ _ _ hi _ y => ⟨y, hi⟩⟩, fun _ _ => trivial, fun i H x H' F1 l l1 y => ?_⟩
  obtain ⟨⟨rfl, rfl⟩, hi⟩ := y
  exact ⟨F1, .int (lo + i), by unfold rgD; simp [hi], Ex.rfl l1, .int _⟩
def int1 (ds : List D) (Q : Int → Prop) : Prop := match ds with
  | [.int j] => Q j
  | _ => False
def int2 (ds : List D) (Q : Int → Int → Prop) : Prop := match ds with
  | [.int i, .int j] => Q i j
  | _ => False
theorem int1_of {ds : List D} {Q : Int → Prop} (h : int1 ds Q) : ∃ j, ds = [.int j] ∧ Q j := by
  unfold int1 at h
  split at h
  · exact ⟨_, rfl, h⟩
  · exact h.elim
theorem int2_of {ds : List D} {Q : Int → Int → Prop} (h : int2 ds Q) : ∃ i j, ds = [.int i, .int j] ∧ Q i j := by
  unfold int2 at h
  split at h
  · exact ⟨_, _, rfl, h⟩
  · exact h.elim
def uRng1 (us : TDa) : TDi := fun ρ n Q => us ρ n fun ds m => int1 ds fun j => (-(2 ^ 62) ≤ j ∧ j < 2 ^ 62) ∧ Q (rgD 0 j.toNat) m
def uRng2 (us : TDa) : TDi := fun ρ n Q => us ρ n fun ds m => int2 ds fun i j => (-(2 ^ 62) ≤ i ∧ i < 2 ^ 62 ∧ -(2 ^ 62) ≤ j ∧ j < 2 ^ 62) ∧ Q (rgD i (j - i).toNat) m
theorem dda1 {K : PySem.W.Frag} {F : Hp} {vs : List V} {d : D} (h : DdA K F vs [d]) : ∃ v, vs = [v] ∧ Dd K F v d := by
  cases h with
  | cons a b => cases b; exact ⟨_, rfl, a⟩
theorem dda2 {K : PySem.W.Frag} {F : Hp} {vs : List V} {d e : D} (h : DdA K F vs [d, e]) : ∃ v w, vs = [v, w] ∧ Dd K F v d ∧ Dd K F w e := by
  cases h with
  | cons a b => obtain ⟨w, rfl, c⟩ := dda1 b; exact ⟨_, _, rfl, a, c⟩
theorem ui_range1 {tg a : Expr} {p : Pos} (h : UA X C [a] us) (hm : X.mg "range" = none) (hg : Gl X "range" := by rfl) (hs : starEach [a] X.env = [(false, eval a X.env)] := by rfl) : UI X C tg (.Call (.Name "range" p) [a] [] pos) (uRng1 us) := by
  refine ⟨PIw (pi_range1 hg hm h.run hs) fun σ H R ⟨F, ρ, n, rel, q⟩ => ⟨F, ρ, n, rel, h.mo _ _ _ _ (fun ds m q vs F1 H1 x1 m1 d1 => ?_) q⟩, fun ρ n P Q i w => h.mo _ _ _ _ (fun ds m q => ?_) w⟩
  · obtain ⟨j, rfl, q⟩ := int1_of q
    obtain ⟨v, rfl, dd⟩ := dda1 d1
    obtain rfl : v = V.int j := by cases dd; rfl
    exact ⟨j, rfl, q.1.1, q.1.2, q.2 _ F1 H1 x1 m1 walkD_range⟩
  · obtain ⟨j, rfl, q⟩ := int1_of q
    exact ⟨q.1, i _ _ q.2⟩
theorem ui_range2 {tg a b : Expr} {p : Pos} (h : UA X C [a, b] us) (hm : X.mg "range" = none) (hg : Gl X "range" := by rfl) (hs : starEach [a, b] X.env = [(false, eval a X.env), (false, eval b X.env)] := by rfl) (hs2 : starEach [b] X.env = [(false, eval b X.env)] := by rfl) : UI X C tg (.Call (.Name "range" p) [a, b] [] pos) (uRng2 us) := by
  refine ⟨PIw (pi_range2 hg hm h.run hs hs2) fun σ H R ⟨F, ρ, n, rel, q⟩ => ⟨F, ρ, n, rel, h.mo _ _ _ _ (fun ds m q vs F1 H1 x1 m1 d1 => ?_) q⟩, fun ρ n P Q i w => h.mo _ _ _ _ (fun ds m q => ?_) w⟩
  · obtain ⟨j, k, rfl, q⟩ := int2_of q
    obtain ⟨v, w, rfl, c1, c2⟩ := dda2 d1
    obtain rfl : v = V.int j := by cases c1; rfl
    obtain rfl : w = V.int k := by cases c2; rfl
    exact ⟨j, k, rfl, q.1, q.2 _ F1 H1 x1 m1 walkD_range⟩
  · obtain ⟨j, k, rfl, q⟩ := int2_of q
    exact ⟨q.1, i _ _ q.2⟩
/-- pairs of two walks' things -/
theorem walkD_pair {K : PySem.W.Frag} {J : It} {F : Hp} {n : Nat} {xs ys : Nat → Option V} {as bs : Nat → Option D} {ds : List D} {G : Hp → Prop} (w : Walk J n G (YPair xs ys)) (g : ∀ H, Le F H → G H) (hl : ds.length = n)
    (ha : ∀ i x, xs i = some x → ∃ d, as i = some d ∧ Dd K F x d) (hb : ∀ i x, ys i = some x → ∃ d, bs i = some d ∧ Dd K F x d) (hd : ∀ i a b, as i = some a → bs i = some b → i < n → ds[i]? = some (.tup [a, b])) : WalkD K J F ds := by
  refine ⟨G, fun i H x H' => YPair xs ys i H x H' ∧ i < n, by rw [hl]; exact w.mono (fun _ h => h) (fun i H x H' hi _ y => ⟨y, hi⟩), g, fun i H x H' F1 l l1 y => ?_⟩
  obtain ⟨⟨T, v, z, rfl, np, rfl, e1, e2⟩, hi⟩ := y
  obtain ⟨a, ea, da⟩ := ha i v e1
  obtain ⟨b, eb, db⟩ := hb i z e2
  exact ⟨_, _, hd i a b ea eb hi, Ex.newF l1 np, dd_tupN (.cons (da.le l) (.cons (db.le l) .nil)) (l1.fr (fr0_none np))⟩
def enumD (ds : List D) : List D := (List.range ds.length).map fun (i : Nat) => .tup [.int i, ds.getD i .non]
theorem enumD_length (ds : List D) : (enumD ds).length = ds.length := by
  unfold enumD
  simp
theorem enumD_get (ds : List D) (i : Nat) : (enumD ds)[i]? = ds[i]?.map fun d => .tup [.int (i : Nat), d] := by
  unfold enumD
  rw [List.getElem?_map]
  by_cases h : i < ds.length
  · simp [h]
  · simp [h]
theorem DdA.fn {K : PySem.W.Frag} {F : Hp} {vs : List V} {ds : List D} (h : DdA K F vs ds) : ∀ (i : Nat) (x : V), vs[i]? = some x → ∃ d, ds[i]? = some d ∧ Dd K F x d := fun i x e => h.get e
theorem enum_walk {K : PySem.W.Frag} {J : It} {F : Hp} {vs : List V} {ds : List D} {G : Hp → Prop} (w : Walk J vs.length G (YPair (fun i => some (.int (i : Nat))) (fun i => vs[i]?))) (g : ∀ H, Le F H → G H) (h : DdA K F vs ds) : WalkD K J F (enumD ds) :=
  walkD_pair (as := fun i => some (.int (i : Nat))) (bs := fun i => ds[i]?) w g (by rw [enumD_length, h.length]) (fun i x e => by cases e; exact ⟨_, rfl, .int _⟩) h.fn fun i a b ha hb _ => by
    cases ha
    have hb : ds[i]? = some b := hb
    rw [enumD_get, hb]
    rfl
def seq1 (ds : List D) (Q : Bool → List D → Prop) : Prop := match ds with
  | [.lst xs] => Q true xs
  | [.tup xs] => Q false xs
  | _ => False
theorem seq1_of {ds : List D} {Q : Bool → List D → Prop} (h : seq1 ds Q) : (∃ xs, ds = [.lst xs] ∧ Q true xs) ∨ ∃ xs, ds = [.tup xs] ∧ Q false xs := by
  unfold seq1 at h
  split at h
  · exact .inl ⟨_, rfl, h⟩
  · exact .inr ⟨_, rfl, h⟩
  · exact h.elim
theorem seq1_mo {ds : List D} {Q Q' : Bool → List D → Prop} (i : ∀ b xs, Q b xs → Q' b xs) (h : seq1 ds Q) : seq1 ds Q' := by
  rcases seq1_of h with ⟨xs, rfl, q⟩ | ⟨xs, rfl, q⟩
  · exact i _ _ q
  · exact i _ _ q
/-- k: over a list (else over a tuple) -/
def uEnum (k : Bool) (us : TDa) : TDi := fun ρ n Q => us ρ n fun ds m => seq1 ds fun b xs => b = k ∧ Q (enumD xs) m
theorem mo_Enum {k : Bool} (h : Mo us) : Mo (uEnum k us) := fun ρ n P Q i w => h _ _ _ _ (fun ds m => seq1_mo fun b xs q => ⟨q.1, i _ _ q.2⟩) w
theorem ui_enumL {a : Expr} {p tpos : Pos} {elts : List Expr} {kk : Nat} (h : UA X C [a] us) (hm : X.mg "enumerate" = none) (hg : Gl X "enumerate" := by rfl) (hs : starEach [a] X.env = [(false, eval a X.env)] := by rfl) :
    UI X C (.Tuple elts kk tpos) (.Call (.Name "enumerate" p) [a] [] pos) (uEnum true us) := by
  refine ⟨PIw (pi_enum hg hm h.run hs) fun σ H R ⟨F, ρ, n, rel, q⟩ => ⟨F, ρ, n, rel, h.mo _ _ _ _ (fun ds m q vs F1 H1 x1 m1 d1 => ?_) q⟩, mo_Enum h.mo⟩
  rcases seq1_of q with ⟨xs, rfl, e, q⟩ | ⟨xs, rfl, e, q⟩
  · obtain ⟨v, rfl, dd⟩ := dda1 d1
    match v, dd with
    | _, .lst hq ha => exact ⟨_, _, rfl, SqL.le x1.le hq, q _ F1 H1 x1 m1 (enum_walk walk_enum (fun H' l => SqL.le l hq) ha)⟩
  · cases e
theorem ui_enumT {a : Expr} {p tpos : Pos} {elts : List Expr} {kk : Nat} (h : UA X C [a] us) (hm : X.mg "enumerate" = none) (hg : Gl X "enumerate" := by rfl) (hs : starEach [a] X.env = [(false, eval a X.env)] := by rfl) :
    UI X C (.Tuple elts kk tpos) (.Call (.Name "enumerate" p) [a] [] pos) (uEnum false us) := by
  refine ⟨PIw (HN.pi_enumT hg hm h.run hs) fun σ H R ⟨F, ρ, n, rel, q⟩ => ⟨F, ρ, n, rel, h.mo _ _ _ _ (fun ds m q vs F1 H1 x1 m1 d1 => ?_) q⟩, mo_Enum h.mo⟩
  rcases seq1_of q with ⟨xs, rfl, e, q⟩ | ⟨xs, rfl, e, q⟩
  · cases e
  · obtain ⟨v, rfl, dd⟩ := dda1 d1
    match v, dd with
    | _, .tup hq ha => exact ⟨_, _, rfl, SqT.le x1.le hq, q _ F1 H1 x1 m1 (enum_walk HN.walk_ent (fun H' l => SqT.le l hq) ha)⟩
end
end PU
set_option maxHeartbeats 2000000
namespace PU
open PySem PySem.Spec PyProof.Rows L2 HG

/-! ## comprehensions -/
def wipeD (ρ : List S) : List Nat → List S
  | [] => ρ
  | v :: vs => st (wipeD ρ vs) v .u
section
variable {K : PySem.W.Frag} {C : Cn} {F : Hp} {ρ : List S} {n : Nat} {σ : L2.St} {H : Hp}
theorem Rel.none {i : Nat} (r : Rel K C F ρ n σ H) : Rel K C F (st ρ i .u) n (σ.set i Option.none) H := by
  have r' := r.drop (i := i)
  refine ⟨r'.x, r'.m, by rw [List.length_set]; exact r'.len, fun j => ?_, r'.apart, r'.own⟩
  rw [getD_set]
  by_cases q : j = i ∧ i < σ.length
  · rw [gt_st, ← r.len, if_pos q]
    trivial
  · rw [if_neg q]
    exact r'.sl j
theorem Rel.wipe (r : Rel K C F ρ n σ H) : ∀ vs : List Nat, Rel K C F (wipeD ρ vs) n (wipe σ vs) H
  | [] => r
  | v :: vs => (r.wipe vs).none
theorem wipe_in {σ : L2.St} {i : Nat} : ∀ {vs : List Nat}, i ∈ vs → i < σ.length → (L2.wipe σ vs)[i]? = some Option.none
  | v :: vs, h, l => by
    have e : (L2.wipe σ (v :: vs)) = (L2.wipe σ vs).set v Option.none := rfl
    rw [e]
    by_cases z : i = v
    · subst z
      exact List.getElem?_set_self (by rw [wipe_length]; exact l)
    · rw [List.getElem?_set_ne (Ne.symm z)]
      exact wipe_in (by rcases List.mem_cons.mp h with q | q; exact absurd q z; exact q) l
theorem wipe_but {σ σ' : L2.St} {ids vs : List Nat} (b : But ids σ σ') (h : ∀ j ∈ ids, j ∈ vs) : L2.wipe σ' vs = L2.wipe σ vs := by
  refine List.ext_getElem? fun j => ?_
  by_cases m : j ∈ vs
  · by_cases l : j < σ.length
    · rw [wipe_in m l, wipe_in m (by rw [b.1]; exact l)]
    · rw [List.getElem?_eq_none (by rw [wipe_length, b.1]; omega), List.getElem?_eq_none (by rw [wipe_length]; omega)]
  · rw [wipe_out m, wipe_out m]
    exact b.2 j fun z => m (h j z)
theorem wipe_wipe {σ : L2.St} (vs : List Nat) : L2.wipe (L2.wipe σ vs) vs = L2.wipe σ vs := by
  refine List.ext_getElem? fun j => ?_
  by_cases m : j ∈ vs
  · by_cases l : j < σ.length
    · rw [wipe_in m l, wipe_in m (by rw [wipe_length]; exact l)]
    · rw [List.getElem?_eq_none (by rw [wipe_length, wipe_length]; omega), List.getElem?_eq_none (by rw [wipe_length]; omega)]
  · rw [wipe_out m]
end
structure UTs (X : Cx) (C : Cn) (e : List Expr) (u : TDb) : Prop where
  run : PTs X e (tT X.K C u)
  mo : Mo u
def uYes : TDb := fun _ n Q => Q true n
section
variable {X : Cx} {C : Cn} {e : Expr} {pos : Pos}
theorem uts_nil : UTs X C [] uYes := by
  refine ⟨⟨fun pins s σ H Q I h => pts_nil.run pins s σ H Q I ?_⟩, fun ρ n P Q i w => i _ _ w⟩
  obtain ⟨F, ρ, n, rel, q⟩ := h
  exact q F H (Ex.rfl rel.le) rel.m
theorem uts_one {t : TDb} (h : UT X C e t) : UTs X C [e] t := ⟨pts_one h.run, h.mo⟩
def uLc (ui : TDi) (g : TDg) (t : TDb) (ue : TD) (vs : List Nat) : TDl := fun ρ n Q => ui ρ n fun ds m => ∃ P : Nat → List D → Nat → Prop, P 0 [] m ∧
  (∀ i x acc k, ds[i]? = some x → P i acc k → g x (wipeD ρ vs) fun ρ2 => t ρ2 k fun b k2 => if b = true then ue ρ2 k2 fun d k3 => acc.length < sizeLine ∧ P (i + 1) (acc ++ [d]) k3 else P (i + 1) acc k2) ∧
  ∀ acc k, P ds.length acc k → Q acc k
theorem mo_Lc {ui : TDi} {g : TDg} {t : TDb} {ue : TD} {vs : List Nat} (h : Mo ui) : Mo (uLc ui g t ue vs) := fun ρ n P Q i w => h _ _ _ _ (fun ds m ⟨W, w0, w1, w2⟩ => ⟨W, w0, w1, fun acc k p => i _ _ (w2 acc k p)⟩) w
theorem lc_read {ui : TDi} {g : TDg} {t : TDb} {ue : TD} {vs ids : List Nat} (sub : ∀ b ∈ C.pol.ex, b ∈ C.dx) (mi : Mo ui) (mg : MoG g) (mt : Mo t) (me : Mo ue) (hids : ∀ j ∈ ids, j ∈ vs) {σ : L2.St} {H : Hp} {Q : VK}
    (h : tL X.K C (uLc ui g t ue vs) σ H Q) : tLc (tI X.K C ui) (tG X.K C ids g) (tT X.K C t) (tE X.K C ue) vs σ H Q := by
  obtain ⟨F, ρ, n, rel, q⟩ := h
  refine ⟨F, ρ, n, rel, mi _ _ _ _ (fun ds m ⟨P, p0, p1, p2⟩ J F1 H1 x1 m1 wd A na => ?_) q⟩
  obtain ⟨G, Y, w, wg, wy⟩ := wd
  have rel1 := rel.stepG x1 m1
  have fA : Fr0 H1 A := fr0_none na
  have nF : Fr0 F1 A := x1.le.fr fA
  have no : ∀ b, (∃ o, H1 b = some o) → b ≠ A := fun b ⟨o, e⟩ z => by
    subst z
    rw [na] at e
    cases e
  have nd : A ∉ C.dx := fun z => no A (by obtain ⟨o, e, _⟩ := C.dm m H1 m1 A z; exact ⟨o, e⟩) rfl
  have ne : A ∉ C.pol.ex := fun z => nd (sub A z)
  have put : ∀ F' H' (vs' : List V), Ex C.pol F1 H1 F' H' → Fr0 F' A → Ex C.pol F1 H1 F' (upd H' A (.lst vs')) := fun F' H' vs' x nf =>
    ⟨x.up, x.le.updR nf, x.new, x.keep.mut fA, fun lm b ps e => by rw [upd_ne (no b ⟨_, e⟩)]; exact x.tk lm b ps e⟩
  have putM : ∀ k H' (vs' : List V) ws', C.M k H' → H' A = some (.lst ws') → C.M k (upd H' A (.lst vs')) := fun k H' vs' ws' m' at_ => C.kp k H' _ (fun b o e h => by
    rw [upd_ne (fun z => ?_)]
    · exact e
    · subst z
      rcases h with h | h
      · exact nd h
      · rw [at_] at e
        cases e
        exact h.1 _ rfl) m'
  have putM0 : C.M m (upd H1 A (.lst [])) := C.kp m H1 _ (fun b o e h => by rw [upd_ne (no b ⟨o, e⟩)]; exact e) m1
  refine lc_it w (fun i H' => ∃ F' acc ws k, Ex C.pol F1 H1 F' H' ∧ C.M k H' ∧ Fr0 F' A ∧ H' A = some (.lst ws) ∧ DdA X.K F' ws acc ∧ P i acc k) ?_ ?_ ?_ ?_
  · exact ⟨F1, [], [], m, put F1 H1 [] (Ex.rfl x1.le) nF, putM0, nF, upd_same, .nil, p0⟩
  · intro i H' _ ⟨F', acc, ws, k, x, m', _⟩
    exact wg H' (x.up.tr x.le)
  · intro i x H' H2 hi ⟨F', acc, ws, k, x', m', nf, at_, dd, p⟩ y
    have r' : Rel X.K C F' (wipeD ρ vs) k (L2.wipe σ vs) H' := (rel1.stepG x' m').wipe vs
    obtain ⟨F2, d, hd, x2, ddx⟩ := wy i H' x H2 F' x'.up x'.le y
    have r2 := r'.step x2
    refine ⟨F2, _, k, d, r2, ddx, mg _ _ _ _ (fun ρ2 q σ2 rσ b => ⟨by rw [wipe_but b hids, wipe_wipe], F2, ρ2, k, rσ, mt _ _ _ _ (fun b k2 q F3 H3 x3 m3 => ?_) q⟩) (p1 i d acc k hd p)⟩
    have x13 : Ex C.pol F1 H1 F3 H3 := (x'.tr x2.up0).tr x3
    have x'3 : Ex C.pol F' H' F3 H3 := x2.up0.tr x3
    have at3 : H3 A = some (.lst ws) := x'3.keep.all A _ at_ ne (fun _ z => nomatch z)
    have nf3 : Fr0 F3 A := fun u hu => nf u (by rw [← x'3.new A _ at_ (fun _ z => nomatch z)]; exact hu)
    dsimp only at q ⊢
    by_cases z : b = true
    · rw [if_pos z] at q ⊢
      refine ⟨F3, ρ2, k2, rσ.stepG x3 m3, me _ _ _ _ (fun d' k3 q v F4 H4 x4 m4 d4 => ?_) q⟩
      have at4 : H4 A = some (.lst ws) := x4.keep.all A _ at3 ne (fun _ z => nomatch z)
      have nf4 : Fr0 F4 A := fun u hu => nf3 u (by rw [← x4.new A _ at3 (fun _ z => nomatch z)]; exact hu)
      refine ⟨ws, at4, by rw [dd.length]; exact q.1, F4, acc ++ [d'], ws ++ [v], k3, put F4 H4 _ (x13.tr x4) nf4, putM k3 H4 _ _ m4 at4, nf4, upd_same, ?_, q.2⟩
      exact (dd.le (x'3.up.tr x4.up)).append (.cons d4 .nil)
    · rw [if_neg z] at q ⊢
      exact ⟨F3, acc, ws, k2, x13, m3, nf3, at3, dd.le x'3.up, q⟩
  · intro H' ⟨F', acc, ws, k, x', m', nf, at_, dd, p⟩
    exact p2 acc k p A ws F' H' (x1.tr x') m' (x1.keep.none na) nf at_ dd
theorem ul_lc {elt tg iter : Expr} {ifs : List Expr} {scope : Scope} {own : List (Str × Nat)} {ui : TDi} {g : TDg} {t : TDb} {ue : TD} {ids : List Nat} (hC : C.Ok) (hN : X.N.Nodup) (hi : UI X C tg iter ui) (ok : BlkOk X.N X.env.scope scope own)
    (hg : ∀ (s : Shared) (H : Hp) (A : Addr) (cl : List (Str × Addr)) (fp : List Addr), UG (X.blk s H scope (compEnvC scope cl A X.env) fp) C tg ids g) (ht : ∀ (s : Shared) (H : Hp) (A : Addr) (cl : List (Str × Addr)) (fp : List Addr), UTs (X.blk s H scope (compEnvC scope cl A X.env) fp) C ifs t)
    (he : ∀ (s : Shared) (H : Hp) (A : Addr) (cl : List (Str × Addr)) (fp : List Addr), UE (X.blk s H scope (compEnvC scope cl A X.env) fp) C elt ue) (hids : ∀ j ∈ ids, j ∈ own.map (·.2) := by decide) (hc : X.calm = true := by rfl) (hs : ∀ x, foldedSetIterable iter X.env x = pure x := by intro _; rfl) :
    UL X C (.ListComp elt [⟨tg, iter, ifs, 0⟩] scope pos) (uLc ui g t ue (own.map (·.2))) := by
  let s0 : Shared := (PySem.start X.prog).1
  exact ⟨PEw (pe_lc hc hN hi.run ok (fun s H A cl fp => (hg s H A cl fp).run) (fun s H A cl fp => (ht s H A cl fp).run) (fun s H A cl fp => (he s H A cl fp).run) hs) fun σ H Q h =>
    lc_read hC.sub hi.mo (hg s0 (fun _ => none) 0 [] []).mo (ht s0 (fun _ => none) 0 [] []).mo (he s0 (fun _ => none) 0 [] []).mo hids h, mo_Lc hi.mo⟩
end
end PU
set_option maxHeartbeats 2000000
namespace PU
open PySem PySem.Spec PyProof.Rows L2 HG

/-! ## y = [..] on one line -/
section
variable {X : Cx} {C : Cn} {e : Expr} {pos : Pos}
theorem us_setLc {i : Nat} {y : Str} {py spos : Pos} {elt tg iter : Expr} {ifs : List Expr} {scope : Scope} {own : List (Str × Nat)} {ui : TDi} {g : TDg} {t : TDb} {ue : TD} {ids : List Nat} (hC : C.Ok) (hN : X.N.Nodup) (hi : UI X C tg iter ui) (ok : BlkOk X.N X.env.scope scope own)
    (hg : ∀ (s : Shared) (H : Hp) (A : Addr) (cl : List (Str × Addr)) (fp : List Addr), UG (X.blk s H scope (compEnvC scope cl A X.env) fp) C tg ids g) (ht : ∀ (s : Shared) (H : Hp) (A : Addr) (cl : List (Str × Addr)) (fp : List Addr), UTs (X.blk s H scope (compEnvC scope cl A X.env) fp) C ifs t)
    (he : ∀ (s : Shared) (H : Hp) (A : Addr) (cl : List (Str × Addr)) (fp : List Addr), UE (X.blk s H scope (compEnvC scope cl A X.env) fp) C elt ue)
    (hsw : swapsWith (.ListComp elt [⟨tg, iter, ifs, 0⟩] scope pos) (some (.Name y py)) spos.line X.env = pure true := by exact sw_true rfl rfl rfl (by decide +kernel)) (hy : X.N[i]? = some y := by rfl) (hyl : X.env.scope.names.lookup y = some .local := by rfl) (hids : ∀ j ∈ ids, j ∈ own.map (·.2) := by decide) (hc : X.calm = true := by rfl) (hs : ∀ x, foldedSetIterable iter X.env x = pure x := by intro _; rfl) :
    US X C (.Assign [.Name y py] (.ListComp elt [⟨tg, iter, ifs, 0⟩] scope pos) spos) (uSet i (uOfL (uLc ui g t ue (own.map (·.2))))) := by
  let s0 : Shared := (PySem.start X.prog).1
  refine ⟨PSw (ps_setLc (wi := tI X.K C ui) (g := tG X.K C ids g) (tt := tT X.K C t) (te := tE X.K C ue) hc hN hy hyl hsw hi.run ok (fun s H A cl fp => (hg s H A cl fp).run) (fun s H A cl fp => (ht s H A cl fp).run) (fun s H A cl fp => (he s H A cl fp).run) hs) fun D σ H ⟨F, ρ, n, E, rel, ok', q⟩ => ?_⟩
  refine lc_read (Q := fun x H1 => D.nx (σ.set i (some x)) H1) hC.sub hi.mo (hg s0 (fun _ => none) 0 [] []).mo (ht s0 (fun _ => none) 0 [] []).mo (he s0 (fun _ => none) 0 [] []).mo hids ⟨F, ρ, n, rel, mo_Lc hi.mo _ _ _ _ (fun ds m q a vs F1 H1 x1 m1 o1 o2 o3 d1 => ?_) q⟩
  have x2 : Ex C.pol F H (upd F1 a (.lst vs)) H1 := x1.frz o1 o2 o3
  exact ok'.nx _ _ m _ H1 x2.up ((rel.stepG x2 m1).setD (dd_lstN d1 o2)) q
theorem us_setLcO {i : Nat} {y : Str} {py spos : Pos} {elt tg iter : Expr} {ifs : List Expr} {scope : Scope} {own : List (Str × Nat)} {ui : TDi} {g : TDg} {t : TDb} {ue : TD} {ids : List Nat} (hC : C.Ok) (hN : X.N.Nodup) (hi : UI X C tg iter ui) (ok : BlkOk X.N X.env.scope scope own)
    (hg : ∀ (s : Shared) (H : Hp) (A : Addr) (cl : List (Str × Addr)) (fp : List Addr), UG (X.blk s H scope (compEnvC scope cl A X.env) fp) C tg ids g) (ht : ∀ (s : Shared) (H : Hp) (A : Addr) (cl : List (Str × Addr)) (fp : List Addr), UTs (X.blk s H scope (compEnvC scope cl A X.env) fp) C ifs t)
    (he : ∀ (s : Shared) (H : Hp) (A : Addr) (cl : List (Str × Addr)) (fp : List Addr), UE (X.blk s H scope (compEnvC scope cl A X.env) fp) C elt ue)
    (hsw : swapsWith (.ListComp elt [⟨tg, iter, ifs, 0⟩] scope pos) (some (.Name y py)) spos.line X.env = pure true := by exact sw_true rfl rfl rfl (by decide +kernel)) (hy : X.N[i]? = some y := by rfl) (hyl : X.env.scope.names.lookup y = some .local := by rfl) (hids : ∀ j ∈ ids, j ∈ own.map (·.2) := by decide) (hc : X.calm = true := by rfl) (hs : ∀ x, foldedSetIterable iter X.env x = pure x := by intro _; rfl) :
    US X C (.Assign [.Name y py] (.ListComp elt [⟨tg, iter, ifs, 0⟩] scope pos) spos) (uSetO i (uLc ui g t ue (own.map (·.2)))) := by
  let s0 : Shared := (PySem.start X.prog).1
  refine ⟨PSw (ps_setLc (wi := tI X.K C ui) (g := tG X.K C ids g) (tt := tT X.K C t) (te := tE X.K C ue) hc hN hy hyl hsw hi.run ok (fun s H A cl fp => (hg s H A cl fp).run) (fun s H A cl fp => (ht s H A cl fp).run) (fun s H A cl fp => (he s H A cl fp).run) hs) fun D σ H ⟨F, ρ, n, E, rel, ok', q⟩ => ?_⟩
  refine lc_read (Q := fun x H1 => D.nx (σ.set i (some x)) H1) hC.sub hi.mo (hg s0 (fun _ => none) 0 [] []).mo (ht s0 (fun _ => none) 0 [] []).mo (he s0 (fun _ => none) 0 [] []).mo hids ⟨F, ρ, n, rel, mo_Lc hi.mo _ _ _ _ (fun ds m q a vs F1 H1 x1 m1 o1 o2 o3 d1 => ?_) q⟩
  exact ok'.nx F1 _ m _ H1 x1.up ((rel.stepG x1 m1).setO hC.sub o1 rel.x.keep ⟨n, rel.m⟩ (fun b z => rel.ownAt z) o2 o3 d1) (q a)
end
/-! ## data as PyData -/
mutual
def D.py : D → Option PyData
  | .non => some .none
  | .bl b => some (.bool b)
  | .int i => some (.int i)
  | .str x => some (.str x)
  | .lst ds => (pyA ds).map .list
  | .tup ds => (pyA ds).map .tuple
  | _ => none
def pyA : List D → Option (List PyData)
  | [] => some []
  | d :: ds => match d.py, pyA ds with
    | some p, some ps => some (p :: ps)
    | _, _ => none
end
mutual
theorem dd_py {K : PySem.W.Frag} {F H : Hp} (l : Le F H) : ∀ (d : D) {v : V} {p : PyData}, Dd K F v d → d.py = some p → Dp K H v p
  | .non, _, _, h, e => by cases h; simp only [D.py] at e; cases e; exact .non
  | .bl _, _, _, h, e => by cases h; simp only [D.py] at e; cases e; exact .bl _
  | .int _, _, _, h, e => by cases h; simp only [D.py] at e; cases e; exact .int _
  | .str _, _, _, h, e => by cases h; simp only [D.py] at e; cases e; exact .str _
  | .ty _, _, _, _, e => by simp only [D.py] at e; cases e
  | .ref _, _, _, _, e => by simp only [D.py] at e; cases e
  | .dk _ _, _, _, _, e => by simp only [D.py] at e; cases e
  | .ins _ _ _, _, _, _, e => by simp only [D.py] at e; cases e
  | .exc _ _ _, _, _, _, e => by simp only [D.py] at e; cases e
  | .lst ds, _, _, h, e => by
    cases h with
    | lst hq ha =>
      simp only [D.py] at e
      cases z : pyA ds with
      | none => rw [z] at e; cases e
      | some ps =>
        rw [z] at e
        cases e
        exact .lst (SqL.le l hq) (dda_py l ds ha z)
  | .tup ds, _, _, h, e => by
    cases h with
    | tup hq ha =>
      simp only [D.py] at e
      cases z : pyA ds with
      | none => rw [z] at e; cases e
      | some ps =>
        rw [z] at e
        cases e
        exact .tup (SqT.le l hq) (dda_py l ds ha z)
theorem dda_py {K : PySem.W.Frag} {F H : Hp} (l : Le F H) : ∀ (ds : List D) {vs : List V} {ps : List PyData}, DdA K F vs ds → pyA ds = some ps → DpAll K H vs ps
  | [], _, _, h, e => by cases h; simp only [pyA] at e; cases e; exact .nil
  | d :: ds, _, _, h, e => by
    cases h with
    | cons a b =>
      simp only [pyA] at e
      cases z1 : d.py with
      | none => rw [z1] at e; cases e
      | some p =>
        cases z2 : pyA ds with
        | none => rw [z1, z2] at e; cases e
        | some ps =>
          rw [z1, z2] at e
          cases e
          exact .cons (dd_py l d a z1) (dda_py l ds b z2)
end
/-! ## operators -/
section
variable {X : Cx}
def rAdd : D → D → (D → Prop) → Prop
  | .int a, .int b, Q => Q (.int (a + b))
  | .str a, .str b, Q => a.length + b.length ≤ sizeLine ∧ Q (.str (a ++ b))
  | .tup a, .tup b, Q => a.length + b.length ≤ sizeLine ∧ Q (.tup (a ++ b))
  | _, _, _ => False
def rInt (f : Int → Int → D) (P : Int → Int → Prop) : D → D → (D → Prop) → Prop
  | .int a, .int b, Q => P a b ∧ Q (f a b)
  | _, _, _ => False
def rInt0 (f : Int → Int → D) : D → D → (D → Prop) → Prop
  | .int a, .int b, Q => Q (f a b)
  | _, _, _ => False
theorem mo_int {f : Int → Int → D} {P : Int → Int → Prop} : MoR (rInt f P) := fun x y P Q i h => by
  cases x <;> cases y <;> first | exact h | exact ⟨h.1, i _ h.2⟩
theorem mo_int0 {f : Int → Int → D} : MoR (rInt0 f) := fun x y P Q i h => by
  cases x <;> cases y <;> first | exact h | exact i _ h
theorem mo_add : MoR rAdd := fun x y P Q i h => by
  cases x <;> cases y <;> first | exact h | exact i _ h | exact ⟨h.1, i _ h.2⟩
theorem catD {K : PySem.W.Frag} {F H : Hp} {v w : V} {a b : List D} {Q : VK} (l : Le F H) (h1 : Dd K F v (.tup a)) (h2 : Dd K F w (.tup b)) (hz : a.length + b.length ≤ sizeLine)
    (q : ∀ v F' H', Ex p0 F H F' H' → Dd K F' v (.tup (a ++ b)) → Q v H') : rCatA K v w H Q := by
  cases h1 with
  | tup q1 a1 =>
    cases h2 with
    | tup q2 a2 =>
      refine ⟨_, _, _, _, rfl, rfl, SqT.le l q1, SqT.le l q2, by rw [a1.length, a2.length]; exact hz, fun e => ?_, fun _ e => ?_, fun _ _ p np => ?_⟩
      · subst e
        cases a1
        exact q _ F H (Ex.rfl l) (.tup q2 a2)
      · subst e
        cases a2
        exact q _ F H (Ex.rfl l) (by rw [List.append_nil]; exact .tup q1 a1)
      · exact q _ _ _ (Ex.newF l np) (dd_tupN (a1.append a2) (l.fr (fr0_none np)))
theorem opd_add : OpD X (binaryOp .Add) rAdd := by
  refine ⟨mo_add, fun pins s σ H x y v u Q I rx ry ⟨F, dx, dy, l, h1, h2, q⟩ => ?_⟩
  match dx, dy, h1, h2, q with
  | .int a, .int b, .int _, .int _, q => exact op_add pins s σ H _ _ v u Q I rx ry ⟨a, b, rfl, rfl, q _ F H (Ex.rfl l) (.int _)⟩
  | .str a, .str b, .str _, .str _, q => exact op_add_str pins s σ H _ _ v u Q I rx ry ⟨a, b, rfl, rfl, q.1, q.2 _ F H (Ex.rfl l) (.str _)⟩
  | .tup a, .tup b, h1, h2, q => exact op_catA pins s σ H _ _ v u Q I rx ry (catD l h1 h2 q.1 q.2)
def rAddI : D → D → (D → Prop) → Prop
  | .int a, .int b, Q => Q (.int (a + b))
  | .tup a, .tup b, Q => a.length + b.length ≤ sizeLine ∧ Q (.tup (a ++ b))
  | _, _, _ => False
theorem mo_addI : MoR rAddI := fun x y P Q i h => by
  cases x <;> cases y <;> first | exact h | exact i _ h | exact ⟨h.1, i _ h.2⟩
theorem ipd_add : IpD X .Add rAddI := by
  refine ⟨mo_addI, fun pins s σ H x y v u Q I rx ry ⟨F, dx, dy, l, h1, h2, q⟩ => ?_⟩
  match dx, dy, h1, h2, q with
  | .int a, .int b, .int _, .int _, q => exact ip_add pins s σ H _ _ v u Q I rx ry ⟨a, b, rfl, rfl, q _ F H (Ex.rfl l) (.int _)⟩
  | .tup a, .tup b, h1, h2, q => exact ip_catA pins s σ H _ _ v u Q I rx ry (catD l h1 h2 q.1 q.2)
end
end PU
set_option maxHeartbeats 2000000
namespace PU
open PySem PySem.Spec PyProof.Rows L2 HG
section
variable {X : Cx}
theorem opd_int0 {f : Value → Value → Sem Value} {g : Int → Int → D} {gv : Int → Int → V} (h : OpR X f (rI0 gv)) (hd : ∀ F i j, Dd X.K F (gv i j) (g i j)) : OpD X f (rInt0 g) := by
  refine ⟨mo_int0, fun pins s σ H x y v u Q I rx ry ⟨F, dx, dy, l, h1, h2, q⟩ => ?_⟩
  match dx, dy, h1, h2, q with
  | .int a, .int b, .int _, .int _, q => exact h pins s σ H _ _ v u Q I rx ry ⟨a, b, rfl, rfl, q _ F H (Ex.rfl l) (hd F a b)⟩
theorem opd_int {f : Value → Value → Sem Value} {g : Int → Int → D} {gv : Int → Int → V} {P : Int → Int → Prop} (h : OpR X f (rI P gv)) (hd : ∀ F i j, Dd X.K F (gv i j) (g i j)) : OpD X f (rInt g P) := by
  refine ⟨mo_int, fun pins s σ H x y v u Q I rx ry ⟨F, dx, dy, l, h1, h2, q⟩ => ?_⟩
  match dx, dy, h1, h2, q with
  | .int a, .int b, .int _, .int _, q => exact h pins s σ H _ _ v u Q I rx ry ⟨a, b, rfl, rfl, q.1, q.2 _ F H (Ex.rfl l) (hd F a b)⟩
theorem opd_sub : OpD X (binaryOp .Sub) (rInt0 fun i j => .int (i - j)) := opd_int0 op_sub fun _ _ _ => .int _
theorem opd_mul : OpD X (binaryOp .Mult) (rInt (fun i j => .int (i * j)) CMul) := opd_int op_mul fun _ _ _ => .int _
theorem opd_mulW : OpD X (binaryOp .Mult) (rInt (fun i j => .int (i * j)) CMulW) := opd_int op_mulW fun _ _ _ => .int _
theorem opd_fdiv : OpD X (binaryOp .FloorDiv) (rInt (fun i j => .int (i / j)) CDiv) := opd_int op_fdiv fun _ _ _ => .int _
theorem opd_fdivW : OpD X (binaryOp .FloorDiv) (rInt (fun i j => .int (i / j)) CDivW) := opd_int op_fdivW fun _ _ _ => .int _
theorem opd_mod : OpD X (binaryOp .Mod) (rInt (fun i j => .int (i % j)) fun _ j => 0 < j) := opd_int op_mod fun _ _ _ => .int _
theorem opd_pow : OpD X (binaryOp .Pow) (rInt (fun i j => .int (i ^ j.toNat)) CPow) := opd_int op_pow fun _ _ _ => .int _
theorem ipd_sub : IpD X .Sub (rInt0 fun i j => .int (i - j)) := by
  refine ⟨mo_int0, fun pins s σ H x y v u Q I rx ry ⟨F, dx, dy, l, h1, h2, q⟩ => ?_⟩
  match dx, dy, h1, h2, q with
  | .int a, .int b, .int _, .int _, q => exact ip_sub pins s σ H _ _ v u Q I rx ry ⟨a, b, rfl, rfl, q _ F H (Ex.rfl l) (.int _)⟩
/-! ### comparisons -/
/-- ints and texts -/
def rOrd (f : Int → Int → Bool) (g : List Nat → List Nat → Bool) : D → D → (D → Prop) → Prop
  | .int a, .int b, Q => Q (.bl (f a b))
  | .str a, .str b, Q => Q (.bl (g a.cps.toList b.cps.toList))
  | _, _, _ => False
theorem mo_ord {f : Int → Int → Bool} {g : List Nat → List Nat → Bool} : MoR (rOrd f g) := fun x y P Q i h => by
  cases x <;> cases y <;> first | exact h | exact i _ h
theorem opd_lt : OpD X (compareOp .Lt) (rOrd (fun i j => decide (i < j)) fun a b => decide (a < b)) := by
  refine ⟨mo_ord, fun pins s σ H x y v u Q I rx ry ⟨F, dx, dy, l, h1, h2, q⟩ => ?_⟩
  match dx, dy, h1, h2, q with
  | .int a, .int b, .int _, .int _, q => exact op_lt pins s σ H _ _ v u Q I rx ry ⟨a, b, rfl, rfl, q _ F H (Ex.rfl l) (.bl _)⟩
  | .str a, .str b, .str _, .str _, q => exact op_lt_str pins s σ H _ _ v u Q I rx ry ⟨a, b, rfl, rfl, q _ F H (Ex.rfl l) (.bl _)⟩
theorem opd_le : OpD X (compareOp .LtE) (rOrd (fun i j => decide (i ≤ j)) fun a b => !decide (b < a)) := by
  refine ⟨mo_ord, fun pins s σ H x y v u Q I rx ry ⟨F, dx, dy, l, h1, h2, q⟩ => ?_⟩
  match dx, dy, h1, h2, q with
  | .int a, .int b, .int _, .int _, q => exact op_le pins s σ H _ _ v u Q I rx ry ⟨a, b, rfl, rfl, q _ F H (Ex.rfl l) (.bl _)⟩
  | .str a, .str b, .str _, .str _, q => exact op_le_str pins s σ H _ _ v u Q I rx ry ⟨a, b, rfl, rfl, q _ F H (Ex.rfl l) (.bl _)⟩
theorem opd_gt : OpD X (compareOp .Gt) (rOrd (fun i j => decide (j < i)) fun a b => decide (b < a)) := by
  refine ⟨mo_ord, fun pins s σ H x y v u Q I rx ry ⟨F, dx, dy, l, h1, h2, q⟩ => ?_⟩
  match dx, dy, h1, h2, q with
  | .int a, .int b, .int _, .int _, q => exact op_gt pins s σ H _ _ v u Q I rx ry ⟨a, b, rfl, rfl, q _ F H (Ex.rfl l) (.bl _)⟩
  | .str a, .str b, .str _, .str _, q => exact op_gt_str pins s σ H _ _ v u Q I rx ry ⟨a, b, rfl, rfl, q _ F H (Ex.rfl l) (.bl _)⟩
theorem opd_ge : OpD X (compareOp .GtE) (rOrd (fun i j => decide (j ≤ i)) fun a b => !decide (a < b)) := by
  refine ⟨mo_ord, fun pins s σ H x y v u Q I rx ry ⟨F, dx, dy, l, h1, h2, q⟩ => ?_⟩
  match dx, dy, h1, h2, q with
  | .int a, .int b, .int _, .int _, q => exact op_ge pins s σ H _ _ v u Q I rx ry ⟨a, b, rfl, rfl, q _ F H (Ex.rfl l) (.bl _)⟩
  | .str a, .str b, .str _, .str _, q => exact op_ge_str pins s σ H _ _ v u Q I rx ry ⟨a, b, rfl, rfl, q _ F H (Ex.rfl l) (.bl _)⟩
/-- scalars -/
def eqS : D → D → Option Bool
  | .int a, .int b => some (decide (a = b))
  | .str a, .str b => some (decide (a = b))
  | .bl a, .bl b => some (decide (a = b))
  | .non, .non => some true
  | .non, .int _ => some false | .int _, .non => some false | .non, .bl _ => some false | .bl _, .non => some false | .non, .str _ => some false | .str _, .non => some false
  | .int _, .str _ => some false | .str _, .int _ => some false | .bl _, .str _ => some false | .str _, .bl _ => some false
  | _, _ => none
def rEqS (f : Bool → Bool) (x y : D) (Q : D → Prop) : Prop := match eqS x y with
  | some b => Q (.bl (f b))
  | none => False
theorem mo_eqS {f : Bool → Bool} : MoR (rEqS f) := fun x y P Q i h => by
  unfold rEqS at h ⊢
  split <;> rename_i e <;> simp only [e] at h
  exact i _ h
theorem eqS_val {K : PySem.W.Frag} {F : Hp} {x y : V} {dx dy : D} {b : Bool} (h1 : Dd K F x dx) (h2 : Dd K F y dy) (e : eqS dx dy = some b) : scal x y = true ∧ decide (x = y) = b := by
  cases h1 <;> cases h2 <;> simp_all [eqS, scal]
theorem opd_eq : OpD X (compareOp .Eq) (rEqS id) := by
  refine ⟨mo_eqS, fun pins s σ H x y v u Q I rx ry ⟨F, dx, dy, l, h1, h2, q⟩ => ?_⟩
  unfold rEqS at q
  cases e : eqS dx dy with
  | none => rw [e] at q; exact q.elim
  | some b =>
    rw [e] at q
    obtain ⟨a1, a2⟩ := eqS_val h1 h2 e
    exact op_eq pins s σ H x y v u Q I rx ry ⟨a1, by rw [a2]; exact q _ F H (Ex.rfl l) (.bl _)⟩
theorem opd_ne : OpD X (compareOp .NotEq) (rEqS not) := by
  refine ⟨mo_eqS, fun pins s σ H x y v u Q I rx ry ⟨F, dx, dy, l, h1, h2, q⟩ => ?_⟩
  unfold rEqS at q
  cases e : eqS dx dy with
  | none => rw [e] at q; exact q.elim
  | some b =>
    rw [e] at q
    obtain ⟨a1, a2⟩ := eqS_val h1 h2 e
    exact op_ne pins s σ H x y v u Q I rx ry ⟨a1, by rw [a2]; exact q _ F H (Ex.rfl l) (.bl _)⟩
/-- data of any depth -/
def rEqD (f : Bool → Bool) (x y : D) (Q : D → Prop) : Prop := match x.py, y.py with
  | some p, some q => SeqAt.shaped p = true ∧ SeqAt.shaped q = true ∧ Q (.bl (f (PyData.eqv p q)))
  | _, _ => False
theorem mo_eqD {f : Bool → Bool} : MoR (rEqD f) := fun x y P Q i h => by
  unfold rEqD at h ⊢
  cases e1 : x.py <;> cases e2 : y.py <;> rw [e1, e2] at h <;> first | exact h | exact ⟨h.1, h.2.1, i _ h.2.2⟩
theorem opd_eqD (hu : X.A.units + 64 < cLine) : OpD X (compareOp .Eq) (rEqD id) := by
  refine ⟨mo_eqD, fun pins s σ H x y v u Q I rx ry ⟨F, dx, dy, l, h1, h2, q⟩ => ?_⟩
  unfold rEqD at q
  cases e1 : dx.py <;> cases e2 : dy.py <;> rw [e1, e2] at q <;> try exact q.elim
  exact op_eqD hu pins s σ H x y v u Q I rx ry ⟨_, _, dd_py l dx h1 e1, dd_py l dy h2 e2, q.1, q.2.1, q.2.2 _ F H (Ex.rfl l) (.bl _)⟩
theorem opd_neD (hu : X.A.units + 64 < cLine) : OpD X (compareOp .NotEq) (rEqD not) := by
  refine ⟨mo_eqD, fun pins s σ H x y v u Q I rx ry ⟨F, dx, dy, l, h1, h2, q⟩ => ?_⟩
  unfold rEqD at q
  cases e1 : dx.py <;> cases e2 : dy.py <;> rw [e1, e2] at q <;> try exact q.elim
  exact op_neD hu pins s σ H x y v u Q I rx ry ⟨_, _, dd_py l dx h1 e1, dd_py l dy h2 e2, q.1, q.2.1, q.2.2 _ F H (Ex.rfl l) (.bl _)⟩
def isNon : D → Bool
  | .non => true
  | _ => false
def rIsN (f : Bool → Bool) (x y : D) (Q : D → Prop) : Prop := y = .non ∧ Q (.bl (f (isNon x)))
theorem mo_isN {f : Bool → Bool} : MoR (rIsN f) := fun x y P Q i h => ⟨h.1, i _ h.2⟩
theorem isNon_val {K : PySem.W.Frag} {F : Hp} {x : V} {dx : D} (h1 : Dd K F x dx) : decide (x = .non) = isNon dx := by
  cases h1 <;> simp [isNon]
theorem opd_isN : OpD X (compareOp .Is) (rIsN id) := by
  refine ⟨mo_isN, fun pins s σ H x y v u Q I rx ry ⟨F, dx, dy, l, h1, h2, q⟩ => ?_⟩
  obtain ⟨rfl, q⟩ := q
  exact op_isN pins s σ H x y v u Q I rx ry ⟨by cases h2; rfl, by rw [isNon_val h1]; exact q _ F H (Ex.rfl l) (.bl _)⟩
theorem opd_notN : OpD X (compareOp .IsNot) (rIsN not) := by
  refine ⟨mo_isN, fun pins s σ H x y v u Q I rx ry ⟨F, dx, dy, l, h1, h2, q⟩ => ?_⟩
  obtain ⟨rfl, q⟩ := q
  exact op_notN pins s σ H x y v u Q I rx ry ⟨by cases h2; rfl, by rw [isNon_val h1]; exact q _ F H (Ex.rfl l) (.bl _)⟩
/-! ### in -/
/-- == of flat things -/
def eqF : D → D → Bool
  | .non, .non => true
  | .bl a, .bl b => a == b
  | .bl a, .int b => (if a then 1 else 0) == b
  | .int a, .bl b => a == (if b then 1 else 0)
  | .int a, .int b => a == b
  | .str a, .str b => a == b
  | _, _ => false
def inF (x : D) (xs : List D) : Bool := xs.any fun y => eqF y x
def rIn (f : Bool → Bool) (x y : D) (Q : D → Prop) : Prop := match y with
  | .lst xs => flat x = true ∧ xs.all flat = true ∧ Q (.bl (f (inF x xs)))
  | .tup xs => flat x = true ∧ xs.all flat = true ∧ Q (.bl (f (inF x xs)))
  | .str z => match x with
    | .str c => Q (.bl (f (!(Builtin.Str.occurrences z c 0 z.length 1).isEmpty)))
    | _ => False
  | _ => False
theorem mo_in {f : Bool → Bool} : MoR (rIn f) := fun x y P Q i h => by
  cases y with
  | str z => cases x <;> first | exact h | exact i _ h
  | lst xs => exact ⟨h.1, h.2.1, i _ h.2.2⟩
  | tup xs => exact ⟨h.1, h.2.1, i _ h.2.2⟩
  | _ => exact h
theorem flat_val {K : PySem.W.Frag} {F : Hp} {x : V} {d : D} (h : Dd K F x d) (f : flat d = true) : flatV x = true := by
  cases h <;> first | rfl | cases f
theorem flat_all {K : PySem.W.Frag} {F : Hp} : ∀ {ds : List D} {vs : List V}, DdA K F vs ds → ds.all flat = true → vs.all flatV = true
  | _, _, .nil, _ => rfl
  | _, _, .cons a b, f => by
    rw [List.all_cons, Bool.and_eq_true] at f ⊢
    exact ⟨flat_val a f.1, flat_all b f.2⟩
theorem eqF_val {K : PySem.W.Frag} {F : Hp} {x y : V} {d e : D} (h : Dd K F x d) (h' : Dd K F y e) : eqV x y = eqF d e := by
  cases h <;> cases h' <;> rfl
theorem inF_val {K : PySem.W.Frag} {F : Hp} {x : V} {d : D} (h : Dd K F x d) : ∀ {ds : List D} {vs : List V}, DdA K F vs ds → inV x vs = inF d ds
  | _, _, .nil => rfl
  | _, _, .cons a b => by
    have := inF_val h b
    unfold inV inF at this ⊢
    rw [List.any_cons, List.any_cons, this, eqF_val a h]
theorem opd_in : OpD X (compareOp .In) (rIn id) := by
  refine ⟨mo_in, fun pins s σ H x y v u Q I rx ry ⟨F, dx, dy, l, h1, h2, q⟩ => ?_⟩
  cases h2 with
  | lst hq ha => exact op_in_seq pins s σ H x _ v u Q I rx ry ⟨_, _, rfl, .inl (SqL.le l hq), flat_val h1 q.1, flat_all ha q.2.1, by rw [if_neg Bool.false_ne_true, inF_val h1 ha]; exact q.2.2 _ F H (Ex.rfl l) (.bl _)⟩
  | tup hq ha => exact op_in_seq pins s σ H x _ v u Q I rx ry ⟨_, _, rfl, .inr (SqT.le l hq), flat_val h1 q.1, flat_all ha q.2.1, by rw [if_neg Bool.false_ne_true, inF_val h1 ha]; exact q.2.2 _ F H (Ex.rfl l) (.bl _)⟩
  | str z => cases h1 <;> first | exact q.elim | exact op_in_str pins s σ H _ _ v u Q I rx ry ⟨_, _, rfl, rfl, q _ F H (Ex.rfl l) (.bl _)⟩
  | _ => exact q.elim
theorem opd_notIn : OpD X (compareOp .NotIn) (rIn not) := by
  refine ⟨mo_in, fun pins s σ H x y v u Q I rx ry ⟨F, dx, dy, l, h1, h2, q⟩ => ?_⟩
  cases h2 with
  | lst hq ha => exact op_notIn_seq pins s σ H x _ v u Q I rx ry ⟨_, _, rfl, .inl (SqL.le l hq), flat_val h1 q.1, flat_all ha q.2.1, by rw [if_pos rfl, inF_val h1 ha]; exact q.2.2 _ F H (Ex.rfl l) (.bl _)⟩
  | tup hq ha => exact op_notIn_seq pins s σ H x _ v u Q I rx ry ⟨_, _, rfl, .inr (SqT.le l hq), flat_val h1 q.1, flat_all ha q.2.1, by rw [if_pos rfl, inF_val h1 ha]; exact q.2.2 _ F H (Ex.rfl l) (.bl _)⟩
  | str z => cases h1 <;> first | exact q.elim | exact op_notin_str pins s σ H _ _ v u Q I rx ry ⟨_, _, rfl, rfl, q _ F H (Ex.rfl l) (.bl _)⟩
  | _ => exact q.elim
/-! ### subscripts, slices -/
@[irreducible] def rIx (x y : D) (Q : D → Prop) : Prop := match x, y with
  | .lst xs, .int k => match atI xs k with
    | some d => Q d
    | none => False
  | .tup xs, .int k => match atI xs k with
    | some d => Q d
    | none => False
  | .str z, .int k => z.length ≤ sizeLine ∧ match atI z.cps.toList k with
    | some c => Q (.str ⟨#[c]⟩)
    | none => False
  | _, _ => False
theorem mo_ix : MoR rIx := fun x y P Q i h => by
  cases x with
  | lst xs =>
    cases y with
    | int k =>
      unfold rIx at h ⊢
      dsimp only at h ⊢
      split <;> rename_i e <;> simp only [e] at h
      exact i _ h
    | _ => unfold rIx at h; exact h.elim
  | tup xs =>
    cases y with
    | int k =>
      unfold rIx at h ⊢
      dsimp only at h ⊢
      split <;> rename_i e <;> simp only [e] at h
      exact i _ h
    | _ => unfold rIx at h; exact h.elim
  | str xs =>
    cases y with
    | int k =>
      unfold rIx at h ⊢
      dsimp only at h ⊢
      refine ⟨h.1, ?_⟩
      have h := h.2
      split <;> rename_i e <;> simp only [e] at h
      exact i _ h
    | _ => unfold rIx at h; exact h.elim
  | _ => unfold rIx at h; exact h.elim
variable {C : Cn} {a b e : Expr} {ua ub u : TD} {pos p2 : Pos} {lo hi : Option Expr}
theorem ue_ix (ha : UE X C a ua) (hb : UE X C b ub) (hs : PlainIx b := by exact fun _ _ => rfl) : UE X C (.Subscript a b pos) (uOp rIx ua ub) := by
  refine ⟨PEw (pe_ix (r := fun x y H Q => ∃ F dx dy, Le F H ∧ Dd X.K F x dx ∧ Dd X.K F y dy ∧ rIx dx dy fun d => ∀ v F' H', Ex p0 F H F' H' → Dd X.K F' v d → Q v H') (fun value slice pins s σ H x y v u Q I rx ry ⟨F, dx, dy, l, h1, h2, q⟩ hs => ?_) ha.run hb.run hs) fun σ H Q ⟨F, ρ, n, rel, u⟩ => ?_, mo_Op mo_ix ha.mo hb.mo⟩
  · unfold rIx at q
    match dx, dy, h1, h2, q with
    | .lst xs, .int k, .lst hq hA, .int _, q =>
      dsimp only at q
      cases e : atI xs k with
      | none => rw [e] at q; exact q.elim
      | some d =>
        rw [e] at q
        obtain ⟨w, e1, dd⟩ := hA.atI e
        exact ix_list value slice pins s σ H _ _ v u Q I rx ry ⟨_, _, k, w, rfl, rfl, SqL.le l hq, e1, q _ F H (Ex.rfl l) dd⟩ hs
    | .tup xs, .int k, .tup hq hA, .int _, q =>
      dsimp only at q
      cases e : atI xs k with
      | none => rw [e] at q; exact q.elim
      | some d =>
        rw [e] at q
        obtain ⟨w, e1, dd⟩ := hA.atI e
        exact ix_tup value slice pins s σ H _ _ v u Q I rx ry ⟨_, _, k, w, rfl, rfl, SqT.le l hq, e1, q _ F H (Ex.rfl l) dd⟩ hs
    | .str z, .int k, .str _, .int _, q =>
      dsimp only at q
      obtain ⟨hz, q⟩ := q
      cases e : atI z.cps.toList k with
      | none => rw [e] at q; exact q.elim
      | some c =>
        rw [e] at q
        exact ix_str value slice pins s σ H _ _ v u Q I rx ry ⟨z, k, c, rfl, rfl, hz, e, q _ F H (Ex.rfl l) (.str _)⟩ hs
  · exact two hb.mo ha.mo rel u fun x y d e m F' H' x1 m1 d1 d2 p => ⟨F', d, e, x1.le, d1, d2, mo_ix _ _ _ _ (fun z q v F2 H2 x2 dd => q v F2 H2 (x1.tr x2.up0) (C.stay m1 x2) dd) p⟩
abbrev TDo := List S → Nat → (Option Int → Nat → Prop) → Prop
def tO (K : PySem.W.Frag) (C : Cn) (u : TDo) : TO := fun σ H Q => ∃ F ρ n, Rel K C F ρ n σ H ∧ u ρ n fun b m => ∀ F' H', Ex C.pol F H F' H' → C.M m H' → Q b H'
structure UO (X : Cx) (C : Cn) (e : Option Expr) (u : TDo) : Prop where
  run : PO X e (tO X.K C u)
  mo : Mo u
def uONo : TDo := fun _ n Q => Q none n
def iOf : D → (Int → Prop) → Prop
  | .int k, Q => Q k
  | _, _ => False
theorem iOf_of {K : PySem.W.Frag} {F : Hp} {v : V} {d : D} (h : Dd K F v d) {Q : Int → Prop} (q : iOf d Q) : ∃ k, v = .int k ∧ Q k := by
  cases h <;> first | exact q.elim | exact ⟨_, rfl, q⟩
theorem mo_iOf {d : D} {P Q : Int → Prop} (h : ∀ b, P b → Q b) (u : iOf d P) : iOf d Q := by
  cases d <;> first | exact h _ u | exact u
def uOSo (u : TD) : TDo := fun ρ n Q => u ρ n fun d m => iOf d fun k => Q (some k) m
theorem POw {X : Cx} {e : Option Expr} {t t' : TO} (h : PO X e t) (w : ∀ σ H Q, t' σ H Q → t σ H Q) : PO X e t' := ⟨fun pins s σ H Q I q => h.run pins s σ H Q I (w _ _ _ q)⟩
theorem uo_none : UO X C none uONo := ⟨POw po_none fun σ H Q ⟨F, ρ, n, rel, q⟩ => q F H (Ex.rfl rel.le) rel.m, fun ρ n P Q i w => i _ _ w⟩
theorem uo_some (h : UE X C e u) : UO X C (some e) (uOSo u) := by
  refine ⟨POw (po_some h.run) fun σ H Q ⟨F, ρ, n, rel, q⟩ => ⟨F, ρ, n, rel, h.mo _ _ _ _ (fun d m q v F1 H1 x1 m1 d1 => ?_) q⟩, fun ρ n P Q i w => h.mo _ _ _ _ (fun d m => mo_iOf fun k => i _ m) w⟩
  obtain ⟨k, e, q⟩ := iOf_of d1 q
  exact ⟨k, e, q F1 H1 x1 m1⟩
def cutD (xs : List D) (lo hi : Option Int) : List D := (xs.drop (HT.sIx xs.length 0 lo)).take (HT.sIx xs.length xs.length hi - HT.sIx xs.length 0 lo)
theorem DdA.cut {K : PySem.W.Frag} {F : Hp} {vs : List V} {ds : List D} (h : DdA K F vs ds) (lo hi : Option Int) : DdA K F (cutV vs lo hi) (cutD ds lo hi) := by
  unfold cutV cutD
  rw [h.length]
  exact (h.drop _).take _
def rSl (x : D) (lo hi : Option Int) (Q : D → Prop) : Prop := match x with
  | .lst xs => Q (.lst (cutD xs lo hi))
  | .tup xs => Q (.tup (cutD xs lo hi))
  | .str z => z.length ≤ sizeLine ∧ Q (.str (cutS z lo hi))
  | _ => False
theorem mo_sl {x : D} {lo hi : Option Int} {P Q : D → Prop} (i : ∀ d, P d → Q d) (h : rSl x lo hi P) : rSl x lo hi Q := by
  cases x <;> first | exact i _ h | exact ⟨h.1, i _ h.2⟩ | exact h
def uSl (ua : TD) (ul uh : TDo) : TD := fun ρ n Q => ua ρ n fun d m => ul ρ m fun l k => uh ρ k fun h j => rSl d l h fun z => Q z j
theorem ue_slice {ul uh : TDo} (ha : UE X C a ua) (hl : UO X C lo ul) (hh : UO X C hi uh) : UE X C (.Subscript a (.Slice lo hi none p2) pos) (uSl ua ul uh) := by
  refine ⟨PEw (pe_slice (r := fun x lo hi H Q => ∃ F d, Le F H ∧ Dd X.K F x d ∧ rSl d lo hi fun d => ∀ v F' H', Ex p0 F H F' H' → Dd X.K F' v d → Q v H') (fun pins s σ H x v vl vu lo hi sl Q I rx hs pl pu ⟨F, d, l, h1, q⟩ => ?_) ha.run hl.run hh.run) fun σ H Q ⟨F, ρ, n, rel, u⟩ => ?_,
    fun ρ n P Q i w => ha.mo _ _ _ _ (fun d m => hl.mo _ _ _ _ fun l k => hh.mo _ _ _ _ fun h j => mo_sl fun z => i z j) w⟩
  · cases h1 with
    | lst hq hA => exact sl_list pins s σ H _ v vl vu lo hi sl Q I rx hs pl pu ⟨_, _, rfl, SqL.le l hq, fun p np => q _ _ _ (Ex.newF l np) (dd_lstN (hA.cut lo hi) (l.fr (fr0_none np)))⟩
    | tup hq hA =>
      refine sl_tupA pins s σ H _ v vl vu lo hi sl Q I rx hs pl pu ⟨_, _, rfl, SqT.le l hq, fun e => ?_, fun _ p np => q _ _ _ (Ex.newF l np) (dd_tupN (hA.cut lo hi) (l.fr (fr0_none np)))⟩
      refine q _ F H (Ex.rfl l) (.tup hq ?_)
      have c := hA.cut lo hi
      unfold cutV at c
      rw [e.1, e.2] at c
      simpa using c
    | str z => exact sl_str pins s σ H _ v vl vu lo hi sl Q I rx hs pl pu ⟨z, rfl, q.1, q.2 _ F H (Ex.rfl l) (.str _)⟩
    | _ => exact q.elim
  · exact ⟨F, ρ, n, rel, ha.mo _ _ _ _ (fun d m q v F1 H1 x1 m1 d1 => ⟨F1, ρ, m, rel.stepG x1 m1, hl.mo _ _ _ _ (fun lo k q F2 H2 x2 m2 => ⟨F2, ρ, k, (rel.stepG x1 m1).stepG x2 m2, hh.mo _ _ _ _ (fun hi j q F3 H3 x3 m3 =>
      ⟨F3, d, x3.le, (d1.le x2.up).le x3.up, mo_sl (fun z q v F4 H4 x4 dd => q v F4 H4 (((x1.tr x2).tr x3).tr x4.up0) (C.stay m3 x4) dd) q⟩) q⟩) q⟩) u⟩
/-! ### -x, chains, truth -/
def uNeg (u : TD) : TD := fun ρ n Q => u ρ n fun d m => iOf d fun k => Q (.int (-k)) m
theorem ue_neg (h : UE X C e u) : UE X C (.UnaryOp .USub e pos) (uNeg u) := by
  refine ⟨PEw (pe_un un_neg h.run) fun σ H Q ⟨F, ρ, n, rel, q⟩ => ⟨F, ρ, n, rel, h.mo _ _ _ _ (fun d m q v F1 H1 x1 m1 d1 => ?_) q⟩, fun ρ n P Q i w => h.mo _ _ _ _ (fun d m => mo_iOf fun k => i _ m) w⟩
  obtain ⟨k, e, q⟩ := iOf_of d1 q
  exact ⟨k, e, q _ F1 H1 x1 m1 (.int _)⟩
variable {c : Expr} {uc : TD}
def uChain (r r' : D → D → (D → Prop) → Prop) (ua ub uc : TD) : TD := fun ρ n Q => ua ρ n fun x n1 => ub ρ n1 fun y n2 => r x y fun z => bOf z fun k => if k = true then uc ρ n2 fun w n3 => r' y w fun z => Q z n3 else Q (.bl false) n2
theorem mo_Chain {r r' : D → D → (D → Prop) → Prop} (mr : MoR r) (mr' : MoR r') (ha : Mo ua) (hb : Mo ub) (hc : Mo uc) : Mo (uChain r r' ua ub uc) := fun ρ n P Q i w => ha _ _ _ _ (fun x n1 => hb _ _ _ _ fun y n2 => mr _ _ _ _ fun z => mo_bOf fun k q => by
  by_cases e : k = true
  · rw [if_pos e] at q ⊢; exact hc _ _ _ _ (fun w n3 => mr' _ _ _ _ fun z => i z n3) q
  · rw [if_neg e] at q ⊢; exact i _ _ q) w
abbrev liftR (X : Cx) (r : D → D → (D → Prop) → Prop) : R2 := fun x y H Q => ∃ F dx dy, Le F H ∧ Dd X.K F x dx ∧ Dd X.K F y dy ∧ r dx dy fun d => ∀ v F' H', Ex p0 F H F' H' → Dd X.K F' v d → Q v H'
theorem chain_read {r r' : D → D → (D → Prop) → Prop} (mr : MoR r) (mr' : MoR r') (ha : Mo ua) (hb : Mo ub) (hc : Mo uc) {σ : L2.St} {H : Hp} {Q : VK} (h : tE X.K C (uChain r r' ua ub uc) σ H Q) : tChain (liftR X r) (liftR X r') (tE X.K C ua) (tE X.K C ub) (tE X.K C uc) σ H Q := by
  obtain ⟨F, ρ, n, rel, u⟩ := h
  refine two hb ha rel u fun x y d e m F' H' x1 m1 d1 d2 p => ⟨F', d, e, x1.le, d1, d2, mr _ _ _ _ (fun z q v F2 H2 x2 dd => ?_) p⟩
  obtain ⟨k, e1, q⟩ := bOf_of dd q
  refine ⟨k, e1, ?_⟩
  have x3 := x1.tr x2.up0
  by_cases e : k = true
  · rw [if_pos e] at q ⊢
    exact ⟨F2, ρ, m, rel.stepG x3 (C.stay m1 x2), hc _ _ _ _ (fun w n3 q v4 F4 H4 x4 m4 d4 => ⟨F4, _, w, x4.le, (d2.le x2.up).le x4.up, d4, mr' _ _ _ _ (fun z q v5 F5 H5 x5 d5 => q v5 F5 H5 ((x3.tr x4).tr x5.up0) (C.stay m4 x5) d5) q⟩) q⟩
  · rw [if_neg e] at q ⊢
    exact q _ F2 H2 x3 (C.stay m1 x2) (.bl _)
theorem ue_chain {op op' : CmpOp} {r r' : D → D → (D → Prop) → Prop} (ho : OpD X (compareOp op) r) (ho' : OpD X (compareOp op') r') (ha : UE X C a ua) (hb : UE X C b ub) (hc : UE X C c uc)
    (hm : lastMarks [op, op'] [b, c] = false := by with_unfolding_all rfl) : UE X C (.Compare a [op, op'] [b, c] pos) (uChain r r' ua ub uc) :=
  ⟨PEw (pe_chain ho.run ho'.run ha.run hb.run hc.run hm) fun σ H Q h => chain_read ho.mo ho'.mo ha.mo hb.mo hc.mo h, mo_Chain ho.mo ho'.mo ha.mo hb.mo hc.mo⟩
theorem ut_chain {op op' : CmpOp} {r r' : D → D → (D → Prop) → Prop} (ho : OpD X (compareOp op) r) (ho' : OpD X (compareOp op') r') (ha : UE X C a ua) (hb : UE X C b ub) (hc : UE X C c uc)
    (hm : lastMarks [op, op'] [b, c] = false := by with_unfolding_all rfl) : UT X C (.Compare a [op, op'] [b, c] pos) (uB (uChain r r' ua ub uc)) := by
  have mo := mo_Chain ho.mo ho'.mo ha.mo hb.mo hc.mo
  refine ⟨PTw (pt_chain ho.run ho'.run ha.run hb.run hc.run hm) fun σ H Q h => ?_, mo_B mo⟩
  obtain ⟨F, ρ, n, rel, u⟩ := h
  refine chain_read (Q := fun x H' => ∃ k, x = .bl k ∧ Q k H') ho.mo ho'.mo ha.mo hb.mo hc.mo ⟨F, ρ, n, rel, mo _ _ _ _ (fun d m q v F' H' x m' dd => ?_) u⟩
  obtain ⟨k, e, q⟩ := bOf_of dd q
  exact ⟨k, e, q F' H' x m'⟩
/-- truth of any value -/
def truD : D → Option Bool
  | .non => some false
  | .bl b => some b
  | .int i => some (i != 0)
  | .lst xs => some (!xs.isEmpty)
  | .tup xs => some (!xs.isEmpty)
  | .dk ks _ => some (!ks.isEmpty)
  | _ => none
def uTru (u : TD) : TDb := fun ρ n Q => u ρ n fun d m => match truD d with
  | some b => Q b m
  | none => False
theorem isEmpty_dd {K : PySem.W.Frag} {F : Hp} {vs : List V} {ds : List D} (h : DdA K F vs ds) : vs.isEmpty = ds.isEmpty := by cases h <;> rfl
theorem truV_of {K : PySem.W.Frag} {F H : Hp} {v : V} {d : D} {b : Bool} (l : Le F H) (h : Dd K F v d) (e : truD d = some b) : (∃ a kvs o, v = .ref a ∧ H a = some (.frz o (.dK kvs))) ∨ TruV K v H b := by
  cases h with
  | non => cases e; exact .inr rfl
  | bl _ => cases e; exact .inr rfl
  | int _ => cases e; exact .inr rfl
  | lst hq ha => cases e; exact .inr (.inl ⟨_, SqL.le l hq, by rw [isEmpty_dd ha]⟩)
  | tup hq ha => cases e; exact .inr (.inr (.inl ⟨_, SqT.le l hq, by rw [isEmpty_dd ha]⟩))
  | dk hq ha =>
    cases e
    rcases hq with hq | ⟨o, hq⟩
    · exact .inr (.inr (.inr ⟨_, l _ _ hq (fun _ z => nomatch z), by simp⟩))
    · exact .inl ⟨_, _, o, rfl, l _ _ hq (fun _ z => nomatch z)⟩
  | _ => cases e
end
end PU
set_option maxHeartbeats 2000000
namespace PU
open PySem PySem.Spec PyProof.Rows L2 HG
section
variable {X : Cx} {C : Cn} {a b e : Expr} {es : List Expr} {ua ub u : TD} {us : TDa} {pos : Pos}
/-- a dict that is walked isn't frozen in K's sense: no locked dicts among what is asked for its truth -/
theorem ut_truth (h : UE X C e u) (he : ∀ whole, isTrue e X.env whole = (do let v ← whole; standAt e.pos; holding [v] (truthy v)) := by intro _; rfl) : UT X C e (uTru (fun ρ n Q => u ρ n fun d m => (match d with | .dk _ _ => False | _ => True) ∧ Q d m)) := by
  refine ⟨PTw (pt_truth h.run he) fun σ H Q ⟨F, ρ, n, rel, q⟩ => ⟨F, ρ, n, rel, h.mo _ _ _ _ (fun d m q v F1 H1 x1 m1 d1 => ?_) q⟩, fun ρ n P Q i w => h.mo _ _ _ _ (fun d m q => ⟨q.1, ?_⟩) w⟩
  · obtain ⟨nd, q⟩ := q
    cases e : truD d with
    | none => rw [e] at q; exact q.elim
    | some b =>
      rw [e] at q
      refine ⟨b, ?_, q F1 H1 x1 m1⟩
      rcases truV_of x1.le d1 e with ⟨a, kvs, o, rfl, e2⟩ | z
      · cases d1 with
        | dk hq ha => exact nd.elim
        | lst hq ha =>
          rcases SqL.le x1.le hq with (z | ⟨_, z⟩) | z
          · rw [e2] at z; cases z
          · rw [e2] at z; cases z
          · cases e; exact .inl ⟨_, .inr z, by rw [isEmpty_dd ha]⟩
        | tup hq ha =>
          rcases SqT.le x1.le hq with (z | ⟨_, z⟩) | z
          · rw [e2] at z; cases z
          · rw [e2] at z; cases z
          · cases e; exact .inr (.inl ⟨_, .inr z, by rw [isEmpty_dd ha]⟩)
        | _ => cases e
      · exact z
  · have q := q.2
    dsimp only at q ⊢
    cases e : truD d with
    | none => rw [e] at q; exact q.elim
    | some b => rw [e] at q; exact i _ _ q
/-! ### built-ins -/
def d1 (ds : List D) (Q : D → Prop) : Prop := match ds with
  | [d] => Q d
  | _ => False
def d2 (ds : List D) (Q : D → D → Prop) : Prop := match ds with
  | [d, e] => Q d e
  | _ => False
theorem d1_of {ds : List D} {Q : D → Prop} (h : d1 ds Q) : ∃ d, ds = [d] ∧ Q d := by
  unfold d1 at h
  split at h
  · exact ⟨_, rfl, h⟩
  · exact h.elim
theorem d2_of {ds : List D} {Q : D → D → Prop} (h : d2 ds Q) : ∃ d e, ds = [d, e] ∧ Q d e := by
  unfold d2 at h
  split at h
  · exact ⟨_, _, rfl, h⟩
  · exact h.elim
theorem d1_mo {ds : List D} {P Q : D → Prop} (i : ∀ d, P d → Q d) (h : d1 ds P) : d1 ds Q := by
  obtain ⟨d, rfl, h⟩ := d1_of h
  exact i _ h
theorem d2_mo {ds : List D} {P Q : D → D → Prop} (i : ∀ d e, P d e → Q d e) (h : d2 ds P) : d2 ds Q := by
  obtain ⟨d, e, rfl, h⟩ := d2_of h
  exact i _ _ h
def rLen (ds : List D) (Q : D → Prop) : Prop := d1 ds fun d => match d with
  | .lst xs => Q (.int xs.length)
  | .tup xs => Q (.int xs.length)
  | .str z => z.length ≤ sizeLine ∧ Q (.int z.length)
  | _ => False
theorem cd_len : CallD X (.builtin "len") rLen := by
  refine ⟨fun xs P Q i h => d1_mo (fun d h => by cases d <;> first | exact i _ h | exact ⟨h.1, i _ h.2⟩ | exact h) h, fun pins s σ H xs us Q I r ⟨F, ds, l, h, q⟩ => ?_⟩
  obtain ⟨d, rfl, q⟩ := d1_of q
  obtain ⟨v, rfl, k1⟩ := dda1 h
  cases k1 with
  | lst hq ha => exact call_len_seq pins s σ H _ us Q I r ⟨_, _, rfl, .inl (SqL.le l hq), by rw [ha.length]; exact q _ F H (Ex.rfl l) (.int _)⟩
  | tup hq ha => exact call_len_seq pins s σ H _ us Q I r ⟨_, _, rfl, .inr (SqT.le l hq), by rw [ha.length]; exact q _ F H (Ex.rfl l) (.int _)⟩
  | str z => exact call_len_str pins s σ H _ us Q I r ⟨_, rfl, q.1, q.2 _ F H (Ex.rfl l) (.int _)⟩
  | _ => exact q.elim
def rAbs (ds : List D) (Q : D → Prop) : Prop := d1 ds fun d => iOf d fun i => Q (.int (if i < 0 then -i else i))
theorem cd_abs : CallD X (.builtin "abs") rAbs := by
  refine ⟨fun xs P Q i h => d1_mo (fun d h => mo_iOf (fun k => i _) h) h, fun pins s σ H xs us Q I r ⟨F, ds, l, h, q⟩ => ?_⟩
  obtain ⟨d, rfl, q⟩ := d1_of q
  obtain ⟨v, rfl, k1⟩ := dda1 h
  obtain ⟨k, rfl, q⟩ := iOf_of k1 q
  exact call_abs pins s σ H _ us Q I r ⟨k, rfl, q _ F H (Ex.rfl l) (.int _)⟩
def rInt1 (ds : List D) (Q : D → Prop) : Prop := d1 ds fun d => iOf d fun i => Q (.int i)
theorem cd_int : CallD X (.type "int") rInt1 := by
  refine ⟨fun xs P Q i h => d1_mo (fun d h => mo_iOf (fun k => i _) h) h, fun pins s σ H xs us Q I r ⟨F, ds, l, h, q⟩ => ?_⟩
  obtain ⟨d, rfl, q⟩ := d1_of q
  obtain ⟨v, rfl, k1⟩ := dda1 h
  obtain ⟨k, rfl, q⟩ := iOf_of k1 q
  exact call_int1 pins s σ H _ us Q I r (.inl ⟨k, rfl, q _ F H (Ex.rfl l) (.int _)⟩)
def rMin2 (f : Int → Int → Int) (ds : List D) (Q : D → Prop) : Prop := d2 ds fun d e => iOf d fun i => iOf e fun j => Q (.int (f i j))
theorem mo_Min2 {f : Int → Int → Int} : ∀ xs P Q, (∀ d, P d → Q d) → rMin2 f xs P → rMin2 f xs Q := fun xs P Q i h => d2_mo (fun d e h => mo_iOf (fun k => mo_iOf fun j => i _) h) h
theorem cd_max2 (hc : X.calm = true := by rfl) : CallD X (.builtin "max") (rMin2 fun i j => if j > i then j else i) := by
  refine ⟨mo_Min2, fun pins s σ H xs us Q I r ⟨F, ds, l, h, q⟩ => ?_⟩
  obtain ⟨d, e, rfl, q⟩ := d2_of q
  obtain ⟨v, w, rfl, h1, h2⟩ := dda2 h
  obtain ⟨k, rfl, q⟩ := iOf_of h1 q
  obtain ⟨j, rfl, q⟩ := iOf_of h2 q
  exact call_max2 hc pins s σ H _ us Q I r ⟨k, j, rfl, q _ F H (Ex.rfl l) (.int _)⟩
theorem cd_min2 (hc : X.calm = true := by rfl) : CallD X (.builtin "min") (rMin2 fun i j => if j < i then j else i) := by
  refine ⟨mo_Min2, fun pins s σ H xs us Q I r ⟨F, ds, l, h, q⟩ => ?_⟩
  obtain ⟨d, e, rfl, q⟩ := d2_of q
  obtain ⟨v, w, rfl, h1, h2⟩ := dda2 h
  obtain ⟨k, rfl, q⟩ := iOf_of h1 q
  obtain ⟨j, rfl, q⟩ := iOf_of h2 q
  exact call_min2 hc pins s σ H _ us Q I r ⟨k, j, rfl, q _ F H (Ex.rfl l) (.int _)⟩
/-- a list of ints -/
def isInts (d : D) (ns : List Int) : Prop := d = .lst (ns.map .int)
theorem vals_ints {K : PySem.W.Frag} {F : Hp} : ∀ {ns : List Int} {vs : List V}, DdA K F vs (ns.map .int) → vs = ns.map V.int
  | [], _, h => by cases h; rfl
  | n :: r, _, h => by
    cases h with
    | cons a b => cases a; rw [List.map_cons, vals_ints b]
theorem dda_ints {K : PySem.W.Frag} {F : Hp} : ∀ ns : List Int, DdA K F (ns.map V.int) (ns.map .int)
  | [] => .nil
  | n :: r => .cons (.int n) (dda_ints r)
theorem vals_strs {K : PySem.W.Frag} {F : Hp} : ∀ {ns : List Str} {vs : List V}, DdA K F vs (ns.map .str) → vs = ns.map V.str
  | [], _, h => by cases h; rfl
  | n :: r, _, h => by
    cases h with
    | cons a b => cases a; rw [List.map_cons, vals_strs b]
theorem dda_strs {K : PySem.W.Frag} {F : Hp} : ∀ ns : List Str, DdA K F (ns.map V.str) (ns.map .str)
  | [] => .nil
  | n :: r => .cons (.str n) (dda_strs r)
def rSumI (ds : List D) (Q : D → Prop) : Prop := d1 ds fun d => ∃ ns : List Int, d = .lst (ns.map .int) ∧ Q (.int ns.sum)
theorem cd_sum (hc : X.calm = true := by rfl) : CallD X (.builtin "sum") rSumI := by
  refine ⟨fun xs P Q i h => d1_mo (fun d ⟨ns, e, h⟩ => ⟨ns, e, i _ h⟩) h, fun pins s σ H xs us Q I r ⟨F, ds, l, h, q⟩ => ?_⟩
  obtain ⟨d, rfl, ns, rfl, q2⟩ := d1_of q
  obtain ⟨v, rfl, k1⟩ := dda1 h
  cases k1 with
  | lst hq ha =>
    obtain rfl := vals_ints ha
    exact cr_sum hc pins s σ H _ us Q I r ⟨_, ns, rfl, SqL.le l hq, q2 _ F H (Ex.rfl l) (.int _)⟩
def rMaxI (ds : List D) (Q : D → Prop) : Prop := d1 ds fun d => ∃ ns : List Int, d = .lst (ns.map .int) ∧ 0 < ns.length ∧ ∀ m, m ∈ ns → (∀ y, y ∈ ns → y ≤ m) → Q (.int m)
theorem cd_max (hc : X.calm = true := by rfl) : CallD X (.builtin "max") rMaxI := by
  refine ⟨fun xs P Q i h => d1_mo (fun d ⟨ns, e, z, h⟩ => ⟨ns, e, z, fun m a b => i _ (h m a b)⟩) h, fun pins s σ H xs us Q I r ⟨F, ds, l, h, q⟩ => ?_⟩
  obtain ⟨d, rfl, ns, rfl, z, q⟩ := d1_of q
  obtain ⟨v, rfl, k1⟩ := dda1 h
  cases k1 with
  | lst hq ha =>
    obtain rfl := vals_ints ha
    exact cr_max hc pins s σ H _ us Q I r ⟨_, ns, rfl, SqL.le l hq, z, fun m a b => q m a b _ F H (Ex.rfl l) (.int _)⟩
def rMinI (ds : List D) (Q : D → Prop) : Prop := d1 ds fun d => ∃ ns : List Int, d = .lst (ns.map .int) ∧ 0 < ns.length ∧ ∀ m, m ∈ ns → (∀ y, y ∈ ns → m ≤ y) → Q (.int m)
theorem cd_min (hc : X.calm = true := by rfl) : CallD X (.builtin "min") rMinI := by
  refine ⟨fun xs P Q i h => d1_mo (fun d ⟨ns, e, z, h⟩ => ⟨ns, e, z, fun m a b => i _ (h m a b)⟩) h, fun pins s σ H xs us Q I r ⟨F, ds, l, h, q⟩ => ?_⟩
  obtain ⟨d, rfl, ns, rfl, z, q⟩ := d1_of q
  obtain ⟨v, rfl, k1⟩ := dda1 h
  cases k1 with
  | lst hq ha =>
    obtain rfl := vals_ints ha
    exact cr_min hc pins s σ H _ us Q I r ⟨_, ns, rfl, SqL.le l hq, z, fun m a b => q m a b _ F H (Ex.rfl l) (.int _)⟩
def rTupOf (ds : List D) (Q : D → Prop) : Prop := d1 ds fun d => match d with
  | .lst xs => Q (.tup xs)
  | .tup xs => Q (.tup xs)
  | _ => False
theorem cd_tuple : CallD X (.type "tuple") rTupOf := by
  refine ⟨fun xs P Q i h => d1_mo (fun d h => by cases d <;> first | exact i _ h | exact h) h, fun pins s σ H xs us Q I r ⟨F, ds, l, h, q⟩ => ?_⟩
  obtain ⟨d, rfl, q⟩ := d1_of q
  obtain ⟨v, rfl, k1⟩ := dda1 h
  cases k1 with
  | lst hq ha => exact call_tuple_of pins s σ H _ us Q I r ⟨_, _, rfl, .inl ⟨SqL.le l hq, fun p np => q _ _ _ (Ex.newF l np) (dd_tupN ha (l.fr (fr0_none np)))⟩⟩
  | tup hq ha => exact call_tuple_of pins s σ H _ us Q I r ⟨_, _, rfl, .inr ⟨SqT.le l hq, q _ F H (Ex.rfl l) (.tup hq ha)⟩⟩
  | _ => exact q.elim
/-- built-ins that give a new list -/
structure CallL (X : Cx) (f : Value) (r : List D → (List D → Prop) → Prop) : Prop where
  mo : ∀ xs P Q, (∀ d, P d → Q d) → r xs P → r xs Q
  run : CallR X f fun xs H Q => ∃ F ds, Le F H ∧ DdA X.K F xs ds ∧ r ds fun d => ∀ p vs, H p = none → DdA X.K F vs d → Q (.ref p) (upd H p (.lst vs))
def uCallL (r : List D → (List D → Prop) → Prop) (us : TDa) : TDl := fun ρ n Q => us ρ n fun ds m => r ds fun d => Q d m
theorem ul_callB {id : String} {x : Str} {p : Pos} {r : List D → (List D → Prop) → Prop} (hc : CallL X (.builtin id) r) (hm : X.mg x = none) (ha : UA X C (e :: es) us) (hv : bootBuiltins x = some (.builtin id) := by decide +kernel) (hg : Gl X x := by rfl) (hn : x ≠ "__name__" := by decide) (hdb : (x == ("__debug__" : Str)) = false := by decide)
    (he : starEach (e :: es) X.env = (false, eval e X.env) :: starEach es X.env := by rfl) (hpl : (backTo pos (starEach es X.env)).any (·.1) = false := by rfl) : UL X C (.Call (.Name x p) (e :: es) [] pos) (uCallL r us) :=
  ⟨PEw (pe_callB hc.run hg hm hv ha.run hn hdb he hpl) fun σ H Q ⟨F, ρ, n, rel, h⟩ => ⟨F, ρ, n, rel, ha.mo _ _ _ _ (fun ds m q vs F1 H1 x1 m1 d1 =>
    ⟨F1, ds, x1.le, d1, hc.mo _ _ _ (fun d q p ws np dd => q p ws F1 _ (x1.tr (Ex.newO x1.le np)) (C.stay m1 (Ex.newO x1.le np)) (x1.keep.none np) (x1.le.fr (fr0_none np)) upd_same dd) q⟩) h⟩, fun ρ n P Q i w => ha.mo _ _ _ _ (fun ds m => hc.mo _ _ _ fun d => i d m) w⟩
theorem ul_callTy {T : String} {x : Str} {p : Pos} {r : List D → (List D → Prop) → Prop} (hc : CallL X (.type T) r) (hm : X.mg x = none) (ha : UA X C (e :: es) us) (hv : bootBuiltins x = some (.type T) := by decide +kernel) (hg : Gl X x := by rfl) (hn : x ≠ "__name__" := by decide) (hdb : (x == ("__debug__" : Str)) = false := by decide)
    (he : starEach (e :: es) X.env = (false, eval e X.env) :: starEach es X.env := by rfl) (hpl : (backTo pos (starEach es X.env)).any (·.1) = false := by rfl) : UL X C (.Call (.Name x p) (e :: es) [] pos) (uCallL r us) :=
  ⟨PEw (pe_callTy hc.run hg hm hv ha.run hn hdb he hpl) fun σ H Q ⟨F, ρ, n, rel, h⟩ => ⟨F, ρ, n, rel, ha.mo _ _ _ _ (fun ds m q vs F1 H1 x1 m1 d1 =>
    ⟨F1, ds, x1.le, d1, hc.mo _ _ _ (fun d q p ws np dd => q p ws F1 _ (x1.tr (Ex.newO x1.le np)) (C.stay m1 (Ex.newO x1.le np)) (x1.keep.none np) (x1.le.fr (fr0_none np)) upd_same dd) q⟩) h⟩, fun ρ n P Q i w => ha.mo _ _ _ _ (fun ds m => hc.mo _ _ _ fun d => i d m) w⟩
def rLstOf (ds : List D) (Q : List D → Prop) : Prop := d1 ds fun d => match d with
  | .lst xs => Q xs
  | .tup xs => Q xs
  | _ => False
theorem cl_list : CallL X (.type "list") rLstOf := by
  refine ⟨fun xs P Q i h => d1_mo (fun d h => by cases d <;> first | exact i _ h | exact h) h, fun pins s σ H xs us Q I r ⟨F, ds, l, h, q⟩ => ?_⟩
  obtain ⟨d, rfl, q⟩ := d1_of q
  obtain ⟨v, rfl, k1⟩ := dda1 h
  cases k1 with
  | lst hq ha => exact call_list_of pins s σ H _ us Q I r ⟨_, _, rfl, .inl (SqL.le l hq), fun p np => q p _ np ha⟩
  | tup hq ha => exact call_list_of pins s σ H _ us Q I r ⟨_, _, rfl, .inr (SqT.le l hq), fun p np => q p _ np ha⟩
  | _ => exact q.elim
def rSortI (ds : List D) (Q : List D → Prop) : Prop := d1 ds fun d => ∃ ns : List Int, d = .lst (ns.map .int) ∧ ns.length < 64 ∧ ∀ ns' : List Int, ns'.Perm ns → ns'.Pairwise (· ≤ ·) → Q (ns'.map .int)
theorem cl_sortedI : CallL X (.builtin "sorted") rSortI := by
  refine ⟨fun xs P Q i h => d1_mo (fun d ⟨ns, e, z, h⟩ => ⟨ns, e, z, fun m a b => i _ (h m a b)⟩) h, fun pins s σ H xs us Q I r ⟨F, ds, l, h, q⟩ => ?_⟩
  obtain ⟨d, rfl, ns, rfl, z, q⟩ := d1_of q
  obtain ⟨v, rfl, k1⟩ := dda1 h
  cases k1 with
  | lst hq ha =>
    obtain rfl := vals_ints ha
    exact cr_sorted pins s σ H _ us Q I r ⟨_, ns, rfl, SqL.le l hq, z, fun ns' p h1 h2 np => q ns' h1 h2 p _ np (dda_ints ns')⟩
def rSortS (ds : List D) (Q : List D → Prop) : Prop := d1 ds fun d => ∃ ns : List Str, d = .lst (ns.map .str) ∧ ns.length < 64 ∧ ∀ ns' : List Str, ns'.Perm ns → sortedS ns' = true → Q (ns'.map .str)
theorem cl_sortedS : CallL X (.builtin "sorted") rSortS := by
  refine ⟨fun xs P Q i h => d1_mo (fun d ⟨ns, e, z, h⟩ => ⟨ns, e, z, fun m a b => i _ (h m a b)⟩) h, fun pins s σ H xs us Q I r ⟨F, ds, l, h, q⟩ => ?_⟩
  obtain ⟨d, rfl, ns, rfl, z, q⟩ := d1_of q
  obtain ⟨v, rfl, k1⟩ := dda1 h
  cases k1 with
  | lst hq ha =>
    obtain rfl := vals_strs ha
    exact cr_sortedS pins s σ H _ us Q I r ⟨_, ns, rfl, SqL.le l hq, z, fun ns' p h1 h2 np => q ns' h1 h2 p _ np (dda_strs ns')⟩
/-! ### isinstance -/
inductive BT where
  | int | str | bool | tuple | list | dict
def BT.nm : BT → String
  | .int => "int" | .str => "str" | .bool => "bool" | .tuple => "tuple" | .list => "list" | .dict => "dict"
def BT.id : BT → Str
  | .int => "int" | .str => "str" | .bool => "bool" | .tuple => "tuple" | .list => "list" | .dict => "dict"
def tyN : D → String
  | .non => "NoneType" | .bl _ => "bool" | .int _ => "int" | .str _ => "str" | .lst _ => "list" | .tup _ => "tuple" | .dk _ _ => "dict" | _ => ""
def isT : BT → D → Option Bool
  | _, .ty _ => none
  | _, .ref _ => none
  | _, .ins _ _ _ => none
  | _, .exc _ _ _ => none
  | .int, .int _ => some true
  | .int, .bl _ => some true
  | .str, .str _ => some true
  | .bool, .bl _ => some true
  | .tuple, .tup _ => some true
  | .list, .lst _ => some true
  | .dict, .dk _ _ => some true
  | _, _ => some false
theorem isT_kit {t : BT} {d : D} {b : Bool} (h : isT t d = some b) : kitB (tyN d) t.nm = some b := by
  cases t <;> cases d <;> simp only [isT, Option.some.injEq, reduceCtorEq] at h <;> subst h <;> simp only [tyN, BT.nm] <;> decide +kernel
theorem dd_ty {K : PySem.W.Frag} {F H : Hp} {v : V} {d : D} (l : Le F H) (h : Dd K F v d) {t : BT} {b : Bool} (e : isT t d = some b) : TyX K H v (.type (tyN d)) := by
  cases h with
  | non => exact .base .non
  | bl _ => exact .base (.bl _)
  | int _ => exact .base (.int _)
  | str _ => exact .base (.str _)
  | ty _ => cases t <;> cases e
  | ref _ => cases t <;> cases e
  | ins _ _ => cases t <;> cases e
  | exc _ _ _ => cases t <;> cases e
  | lst hq ha =>
    rcases SqL.le l hq with (q | ⟨o, q⟩) | ⟨o, its, n, q, c, _⟩
    · exact .base (.lst q)
    · exact .base (.frz q)
    · exact .kList q c
  | tup hq ha =>
    rcases SqT.le l hq with (q | ⟨o, q⟩) | ⟨o, its, n, q, c, _⟩
    · exact .base (.tup q)
    · exact .fTuple q
    · exact .kTuple q c
  | dk hq ha =>
    rcases Rd.le l hq with q | ⟨o, q⟩
    · exact .base (.dK q)
    · exact .fDict q
def uIsi (t : BT) (u : TD) : TD := fun ρ n Q => u ρ n fun d m => match isT t d with
  | some b => Q (.bl b) m
  | none => False
theorem ue_isi (t : BT) {p p2 : Pos} (h : UE X C a u) (hm : X.mg "isinstance" = none) (hm2 : X.mg t.id = none) (hg : Gl X "isinstance" := by rfl) (hg2 : Gl X t.id := by rfl) (hv : bootBuiltins t.id = some (.type t.nm) := by decide +kernel) (hn : t.id ≠ "__name__" := by decide +kernel) (hd : (t.id == ("__debug__" : Str)) = false := by decide +kernel)
    (h1 : starEach [a, .Name t.id p2] X.env = (false, eval a X.env) :: starEach [.Name t.id p2] X.env := by rfl) (h2 : starEach [.Name t.id p2] X.env = (false, eval (.Name t.id p2) X.env) :: starEach [] X.env := by rfl) (hpl : (backTo pos (starEach [.Name t.id p2] X.env)).any (·.1) = false := by rfl) :
    UE X C (.Call (.Name "isinstance" p) [a, .Name t.id p2] [] pos) (uIsi t u) := by
  refine ⟨PEw (pe_callB call_isi hg hm (by decide +kernel) (pa_cons h.run (pa_cons (pe_bltn (v := .ty t.nm) hg2 hm2 hv rfl hn hd) pa_nil h2) h1) (by decide) (by decide) h1 hpl) fun σ H Q ⟨F, ρ, n, rel, q⟩ => ⟨F, ρ, n, rel, h.mo _ _ _ _ (fun d m q v F1 H1 x1 m1 d1 => ?_) q⟩, fun ρ n P Q i w => h.mo _ _ _ _ (fun d m q => ?_) w⟩
  · cases e : isT t d with
    | none => rw [e] at q; exact q.elim
    | some b =>
      rw [e] at q
      exact ⟨v, _, _, _, b, rfl, .ty _, dd_ty x1.le d1 e, kit_ty (isT_kit e), q _ F1 H1 x1 m1 (.bl b)⟩
  · cases e : isT t d with
    | none => rw [e] at q; exact q.elim
    | some b => rw [e] at q; exact i _ _ q
end
end PU
set_option maxHeartbeats 2000000
namespace PU
open PySem PySem.Spec PyProof.Rows L2 HG
/-! ## defs over data -/
/-- an exception: its class, its attributes, the ghost -/
abbrev XD := Addr → List Str → List D → Nat → Prop
abbrev SpD := List D → Nat → (D → Nat → Prop) → XD → Prop
def ExcA (K : PySem.W.Frag) (F H : Hp) (dx : Option Addr) (ns : List Str) (xs : List D) : Prop :=
  (dx = none ∧ ns = [] ∧ xs = []) ∨ ∃ d fs, dx = some d ∧ F d = some (.xd fs) ∧ fs.map (·.1) = ns ∧ DdA K F (fs.map (·.2)) xs
def spG (K : PySem.W.Frag) (G : Gh) (a : SpD) : Sp := fun vs H Q E => ∃ F ds n, Le F H ∧ (∀ b ∈ G.pol.ex, Fr0 F b) ∧ DdA K F vs ds ∧ G.M n H ∧
  a ds n (fun d m => ∀ v F' H', Ex G.pol F H F' H' → G.M m H' → Dd K F' v d → Q v H') fun c ns xs m => ∀ dx F' H', Ex G.pol F H F' H' → G.M m H' → ExcA K F' H' dx ns xs → E (.ref c) dx H'
def MoSp (a : SpD) : Prop := ∀ ds n (Q Q' : D → Nat → Prop) (E E' : XD), (∀ d m, Q d m → Q' d m) → (∀ c ns xs m, E c ns xs m → E' c ns xs m) → a ds n Q E → a ds n Q' E'
structure CalG (P : Program) (w : World) (K : PySem.W.Frag) (mg : Str → Option Value) (base : Heap) (CX : CXT) (k : Nat) (x : Str) (ps : List Str) {ι : Type} (G : ι → Gh) (a : ι → SpD) : Prop where
  ca : Callee P w K mg base CX k x ps fun vs H Q E => ∃ i, spG K (G i) (a i) vs H Q E
  mo : ∀ i, MoSp (a i)
def startD (N : List Str) (ds : List D) : List S := ds.map .d ++ List.replicate (N.length - ds.length) .u
abbrev cnOf (G : Gh) (F H : Hp) : Cn := { toGh := G, F0 := F, H0 := H }
theorem gt_d : ∀ (ds : List D) (r : List S) (i : Nat), (∀ j, gt r j = .u) → (gt (ds.map .d ++ r) i = .u ∧ ds[i]? = none) ∨ ∃ d, ds[i]? = some d ∧ gt (ds.map .d ++ r) i = .d d
  | [], r, i, h => .inl ⟨h i, by simp⟩
  | d :: ds, r, 0, h => .inr ⟨d, rfl, rfl⟩
  | d :: ds, r, i + 1, h => by
    rcases gt_d ds r i h with q | ⟨e, q1, q2⟩
    · exact .inl (by simpa [gt] using q)
    · exact .inr ⟨e, by simpa using q1, q2⟩
theorem gt_rep : ∀ (n j : Nat), gt (List.replicate n .u) j = .u
  | 0, _ => rfl
  | n + 1, 0 => rfl
  | n + 1, j + 1 => gt_rep n j
theorem rel_start {K : PySem.W.Frag} {G : Gh} {F H : Hp} {N : List Str} {vs : List V} {ds : List D} {n : Nat} (l : Le F H) (h : DdA K F vs ds) (m : G.M n H) (hl : ds.length ≤ N.length) : Rel K (cnOf G F H) F (startD N ds) n (L2.start N vs) H := by
  have own0 : ∀ a, a ∉ owns (startD N ds) := fun a z => by
    obtain ⟨i, z⟩ := owns_mem.mp z
    rcases gt_d ds _ i (gt_rep (N.length - ds.length)) with ⟨q, _⟩ | ⟨e, _, q⟩
    · unfold startD at z; rw [q] at z; cases z
    · unfold startD at z; rw [q] at z; cases z
  refine ⟨Ex.rfl l, m, ?_, fun i => ?_, fun i j a z => absurd (owns_mem.mpr ⟨i, z⟩) (own0 a), fun a z => absurd z (own0 a)⟩
  · unfold L2.start startD
    simp [h.length]
  · rcases gt_d ds _ i (gt_rep (N.length - ds.length)) with ⟨q, _⟩ | ⟨e, q1, q⟩
    · unfold startD; rw [q]; trivial
    · unfold startD
      rw [q]
      obtain ⟨v, hv, dd⟩ := h.get' q1
      refine ⟨v, ?_, dd⟩
      unfold L2.start
      have hi : i < vs.length := (List.getElem?_eq_some_iff.mp hv).1
      rw [List.getD_eq_getElem?_getD, List.getElem?_append_left (by simpa using hi), List.getElem?_map, hv]
      rfl
theorem Callee.weak {P : Program} {w : World} {K : PySem.W.Frag} {mg : Str → Option Value} {base : Heap} {CX : CXT} {k : Nat} {x : Str} {ps : List Str} {sp sp' : Sp} (c : Callee P w K mg base CX k x ps sp) (h : ∀ vs H Q E, sp' vs H Q E → sp vs H Q E) : Callee P w K mg base CX k x ps sp' := by
  obtain ⟨f, fd, F, m, kp, b, at_⟩ := c.ex
  exact ⟨f, fd, ⟨fun vs H Q E z => F.len vs H Q E (h _ _ _ _ z), fun A fr s H g us vs Q E r e0 hb hv z => F.run A fr s H g us vs Q E r e0 hb hv (h _ _ _ _ z)⟩, m, kp, b, at_⟩
structure GhOk (G : Gh) : Prop where
  sub : ∀ b ∈ G.pol.ex, b ∈ G.dx
theorem gh0_ok : GhOk gh0 := ⟨fun _ h => nomatch h⟩
section
variable {P : Program} {w : World} {K : PySem.W.Frag} {mg : Str → Option Value} {base : Heap} {ι : Type} {G : ι → Gh} {a : ι → SpD}
/-- a def from which no exception leaves -/
theorem _root_.HG.Def.uk {x : Str} {st : Stmt} {N ps : List Str} {k : Nat} (Df : Def K mg x st ps) (S : FnScope N ps (defScope st)) (ok : ∀ i, GhOk (G i)) (mo : ∀ i, MoSp (a i)) (len : ∀ i ds n Q E, a i ds n Q E → ds.length = ps.length)
    (body : ∀ (i : ι) (f : Addr) (cdv : Value) (A : Around) (outer : List Env) (s : Shared) (F H : Hp) (Ev : XK) (ds : List D) (n : Nat) (Q : D → Nat → Prop) (E : XD),
      (cnOf (G i) F H).Ok → Room k (A.deeper (envOfC x (defScope st) s.heap.objs.size f cdv)) → a i ds n Q E →
      ∃ w', USs (cxOf CX0 P w K mg base N x (defScope st) f cdv A outer s H Ev).nox (cnOf (G i) F H) (defBody st) w' ∧ w' { nx := fun _ m => Q .non m, rt := Q } (startD N ds) n) :
    CalG P w K mg base CX0 (k + 1) x ps G a := by
  refine ⟨Df.ok S (fun vs H Q E h => ?_) (fun f cdv A outer s H vs Q E hr h => ?_), mo⟩
  · obtain ⟨i, F, ds, n, l, fx, dd, m, h⟩ := h
    rw [dd.length]
    exact len i ds n _ _ h
  · obtain ⟨i, F, ds, n, l, fx, dd, m, h⟩ := h
    have hl : ds.length ≤ N.length := by
      rw [len i ds n _ _ h]
      have := congrArg List.length S.pre
      rw [List.length_take] at this
      omega
    obtain ⟨w', u, q⟩ := body i f cdv A outer s F H E ds n _ _ ⟨(ok i).sub, fx, fun b z => (G i).dm n H m b ((ok i).sub b z)⟩ hr h
    refine ⟨_, u.run, F, startD N ds, n, _, rel_start l dd m hl, ⟨?_, ?_, ?_, ?_⟩, q⟩
    · exact fun F' ρ n σ H' _ r q => q .non F' H' r.x r.m .non
    · exact fun v d F' n H' x m dd q => q v F' H' x m dd
    · exact fun F' ρ n σ H' _ r q => q.elim
    · exact fun F' ρ n σ H' _ r q => q.elim
/-- a def from which exceptions may leave -/
theorem _root_.HG.Def.ukX {x : Str} {st : Stmt} {N ps : List Str} {k : Nat} (Df : Def K mg x st ps) (S : FnScope N ps (defScope st)) (ok : ∀ i, GhOk (G i)) (mo : ∀ i, MoSp (a i)) (len : ∀ i ds n Q E, a i ds n Q E → ds.length = ps.length)
    (body : ∀ (i : ι) (f : Addr) (cdv : Value) (A : Around) (outer : List Env) (s : Shared) (F H : Hp) (Ev : XK) (ds : List D) (n : Nat) (Q : D → Nat → Prop) (E : XD),
      (cnOf (G i) F H).Ok → Room k (A.deeper (envOfC x (defScope st) s.heap.objs.size f cdv)) → a i ds n Q E →
      (∀ c ns xs m dx F' H', E c ns xs m → Ex (G i).pol F H F' H' → (G i).M m H' → ExcA K F' H' dx ns xs → Ev (.ref c) dx H') →
      ∃ w', USs (cxOf (L2.CX P w) P w K mg base N x (defScope st) f cdv A outer s H Ev) (cnOf (G i) F H) (defBody st) w' ∧ w' { nx := fun _ m => Q .non m, rt := Q } (startD N ds) n) :
    CalG P w K mg base (L2.CX P w) (k + 1) x ps G a := by
  refine ⟨Df.okX S (fun vs H Q E h => ?_) (fun f cdv A outer s H vs Q E hr h => ?_), mo⟩
  · obtain ⟨i, F, ds, n, l, fx, dd, m, h⟩ := h
    rw [dd.length]
    exact len i ds n _ _ h
  · obtain ⟨i, F, ds, n, l, fx, dd, m, h⟩ := h
    have hl : ds.length ≤ N.length := by
      rw [len i ds n _ _ h]
      have := congrArg List.length S.pre
      rw [List.length_take] at this
      omega
    obtain ⟨w', u, q⟩ := body i f cdv A outer s F H E ds n _ (fun c ns xs m => ∀ dx F' H', Ex (G i).pol F H F' H' → (G i).M m H' → ExcA K F' H' dx ns xs → E (.ref c) dx H') ⟨(ok i).sub, fx, fun b z => (G i).dm n H m b ((ok i).sub b z)⟩ hr h fun c ns xs m dx F' H' q x m' e => q dx F' H' x m' e
    refine ⟨_, u.run, F, startD N ds, n, _, rel_start l dd m hl, ⟨?_, ?_, ?_, ?_⟩, q⟩
    · exact fun F' ρ n σ H' _ r q => q .non F' H' r.x r.m .non
    · exact fun v d F' n H' x m dd q => q v F' H' x m dd
    · exact fun F' ρ n σ H' _ r q => q.elim
    · exact fun F' ρ n σ H' _ r q => q.elim
end
section
variable {X : Cx} {C : Cn} {CX : CXT} {k n : Nat} {ps : List Str} {x : Str} {p pos : Pos} {e : Expr} {es : List Expr} {us : TDa} {ι : Type} {G : ι → Gh} {a : ι → SpD}
/-- a call of a def that minds no ghost -/
def uCp (a : SpD) (us : TDa) : TD := fun ρ n Q => us ρ n fun ds m => a ds 0 (fun d _ => Q d m) fun _ _ _ _ => False
/-- .. of one with the same ghost -/
def uCg (a : SpD) (us : TDa) : TD := fun ρ n Q => us ρ n fun ds m => a ds m Q fun _ _ _ _ => False
theorem mo_Cp {a : SpD} (m : MoSp a) (h : Mo us) : Mo (uCp a us) := fun ρ n P Q i w => h _ _ _ _ (fun ds k => m _ _ _ _ _ _ (fun d _ => i d k) fun _ _ _ _ z => z) w
theorem mo_Cg {a : SpD} (m : MoSp a) (h : Mo us) : Mo (uCg a us) := fun ρ n P Q i w => h _ _ _ _ (fun ds k => m _ _ _ _ _ _ i fun _ _ _ _ z => z) w
theorem uc_p {a : SpD} (c : CalG X.prog X.w X.K X.mg X.base CX k x ps (fun _ : Unit => gh0) fun _ => a) (room : Room n X.A) (lets : Passes CX X E0) (args : UA X C (e :: es) us) (hk : k ≤ n := by decide) (glob : Gl X x := by rfl)
    (hdb : (x == ("__debug__" : Str)) = false := by decide) (he : starEach (e :: es) X.env = (false, eval e X.env) :: starEach es X.env := by rfl) (hpl : (backTo pos (starEach es X.env)).any (·.1) = false := by rfl) :
    UE X C (.Call (.Name x p) (e :: es) [] pos) (uCp a us) :=
  ⟨PEw (pe_cE c.ca room lets args.run hk glob hdb he hpl) fun σ H Q ⟨F, ρ, n, rel, q⟩ => ⟨F, ρ, n, rel, args.mo _ _ _ _ (fun ds m q vs F1 H1 x1 m1 d1 =>
    ⟨(), F1, ds, 0, x1.le, (fun _ z => nomatch z), d1, trivial, c.mo () _ _ _ _ _ _ (fun d _ q v F2 H2 x2 _ dd => q v F2 H2 (x1.tr x2.up0) (C.stay m1 x2) dd) (fun _ _ _ _ z => z.elim) q⟩) q⟩, mo_Cp (c.mo ()) args.mo⟩
theorem uc_g (i : ι) (ok : C.Ok) (c : CalG X.prog X.w X.K X.mg X.base CX k x ps G a) (room : Room n X.A) (lets : Passes CX X E0) (args : UA X C (e :: es) us) (hG : G i = C.toGh := by rfl) (hk : k ≤ n := by decide) (glob : Gl X x := by rfl)
    (hdb : (x == ("__debug__" : Str)) = false := by decide) (he : starEach (e :: es) X.env = (false, eval e X.env) :: starEach es X.env := by rfl) (hpl : (backTo pos (starEach es X.env)).any (·.1) = false := by rfl) :
    UE X C (.Call (.Name x p) (e :: es) [] pos) (uCg (a i) us) :=
  ⟨PEw (pe_cE c.ca room lets args.run hk glob hdb he hpl) fun σ H Q ⟨F, ρ, n, rel, q⟩ => ⟨F, ρ, n, rel, args.mo _ _ _ _ (fun ds m q vs F1 H1 x1 m1 d1 =>
    ⟨i, F1, ds, m, x1.le, (by rw [hG]; exact ok.fr (rel.x.tr x1)), d1, by rw [hG]; exact m1, c.mo i _ _ _ _ _ _ (fun d m q v F2 H2 x2 m2 dd => q v F2 H2 (x1.tr (by rw [hG] at x2; exact x2)) (by rw [hG] at m2; exact m2) dd) (fun _ _ _ _ z => z.elim) q⟩) q⟩, mo_Cg (c.mo i) args.mo⟩
/-- a def that may raise, where it may -/
def uCpX (a : SpD) (E : XD) (us : TDa) : TD := fun ρ n Q => us ρ n fun ds m => a ds 0 (fun d _ => Q d m) fun c ns xs _ => E c ns xs m
def uCgX (a : SpD) (E : XD) (us : TDa) : TD := fun ρ n Q => us ρ n fun ds m => a ds m Q E
def XOk (K : PySem.W.Frag) (C : Cn) (E : XD) (Ev : XK) : Prop := ∀ c ns xs m dx F' H', E c ns xs m → Ex C.pol C.F0 C.H0 F' H' → C.M m H' → ExcA K F' H' dx ns xs → Ev (.ref c) dx H'
theorem uc_pX {a : SpD} {E : XD} {Ev : XK} (xo : XOk X.K C E Ev) (c : CalG X.prog X.w X.K X.mg X.base CX k x ps (fun _ : Unit => gh0) fun _ => a) (room : Room n X.A) (lets : Passes CX X Ev) (args : UA X C (e :: es) us) (hk : k ≤ n := by decide) (glob : Gl X x := by rfl)
    (hdb : (x == ("__debug__" : Str)) = false := by decide) (he : starEach (e :: es) X.env = (false, eval e X.env) :: starEach es X.env := by rfl) (hpl : (backTo pos (starEach es X.env)).any (·.1) = false := by rfl) :
    UE X C (.Call (.Name x p) (e :: es) [] pos) (uCpX a E us) :=
  ⟨PEw (pe_cE c.ca room lets args.run hk glob hdb he hpl) fun σ H Q ⟨F, ρ, n, rel, q⟩ => ⟨F, ρ, n, rel, args.mo _ _ _ _ (fun ds m q vs F1 H1 x1 m1 d1 =>
    ⟨(), F1, ds, 0, x1.le, (fun _ z => nomatch z), d1, trivial, c.mo () _ _ _ _ _ _ (fun d _ q v F2 H2 x2 _ dd => q v F2 H2 (x1.tr x2.up0) (C.stay m1 x2) dd)
      (fun c ns xs _ q dx F2 H2 x2 _ ea => xo c ns xs m dx F2 H2 q ((rel.x.tr x1).tr x2.up0) (C.stay m1 x2) ea) q⟩) q⟩,
    fun ρ n P Q i w => args.mo _ _ _ _ (fun ds k => c.mo () _ _ _ _ _ _ (fun d _ => i d k) fun _ _ _ _ z => z) w⟩
theorem uc_gX {E : XD} {Ev : XK} (i : ι) (ok : C.Ok) (xo : XOk X.K C E Ev) (c : CalG X.prog X.w X.K X.mg X.base CX k x ps G a) (room : Room n X.A) (lets : Passes CX X Ev) (args : UA X C (e :: es) us) (hG : G i = C.toGh := by rfl) (hk : k ≤ n := by decide) (glob : Gl X x := by rfl)
    (hdb : (x == ("__debug__" : Str)) = false := by decide) (he : starEach (e :: es) X.env = (false, eval e X.env) :: starEach es X.env := by rfl) (hpl : (backTo pos (starEach es X.env)).any (·.1) = false := by rfl) :
    UE X C (.Call (.Name x p) (e :: es) [] pos) (uCgX (a i) E us) :=
  ⟨PEw (pe_cE c.ca room lets args.run hk glob hdb he hpl) fun σ H Q ⟨F, ρ, n, rel, q⟩ => ⟨F, ρ, n, rel, args.mo _ _ _ _ (fun ds m q vs F1 H1 x1 m1 d1 =>
    ⟨i, F1, ds, m, x1.le, (by rw [hG]; exact ok.fr (rel.x.tr x1)), d1, by rw [hG]; exact m1, c.mo i _ _ _ _ _ _ (fun d m q v F2 H2 x2 m2 dd => q v F2 H2 (x1.tr (by rw [hG] at x2; exact x2)) (by rw [hG] at m2; exact m2) dd)
      (fun c ns xs m q dx F2 H2 x2 m2 ea => xo c ns xs m dx F2 H2 q ((rel.x.tr x1).tr (by rw [hG] at x2; exact x2)) (by rw [hG] at m2; exact m2) ea) q⟩) q⟩,
    fun ρ n P Q j w => args.mo _ _ _ _ (fun ds k => c.mo i _ _ _ _ _ _ j fun _ _ _ _ z => z) w⟩
end
end PU
set_option maxHeartbeats 2000000
namespace PU
open PySem PySem.Spec PyProof.Rows L2 HG
section
variable {X : Cx}
/-- == of scalars, or else of data -/
def rEqA (f : Bool → Bool) (x y : D) (Q : D → Prop) : Prop := match eqS x y with
  | some b => Q (.bl (f b))
  | none => rEqD f x y Q
theorem mo_eqA {f : Bool → Bool} : MoR (rEqA f) := fun x y P Q i h => by
  unfold rEqA at h ⊢
  split <;> rename_i e <;> simp only [e] at h
  · exact i _ h
  · exact mo_eqD _ _ _ _ i h
theorem opd_eqA (hu : X.A.units + 64 < cLine) : OpD X (compareOp .Eq) (rEqA id) := by
  refine ⟨mo_eqA, fun pins s σ H x y v u Q I rx ry ⟨F, dx, dy, l, h1, h2, q⟩ => ?_⟩
  unfold rEqA at q
  cases e : eqS dx dy with
  | none => rw [e] at q; exact (opd_eqD hu).run pins s σ H x y v u Q I rx ry ⟨F, dx, dy, l, h1, h2, q⟩
  | some b => rw [e] at q; exact opd_eq.run pins s σ H x y v u Q I rx ry ⟨F, dx, dy, l, h1, h2, by unfold rEqS; rw [e]; exact q⟩
theorem opd_neA (hu : X.A.units + 64 < cLine) : OpD X (compareOp .NotEq) (rEqA not) := by
  refine ⟨mo_eqA, fun pins s σ H x y v u Q I rx ry ⟨F, dx, dy, l, h1, h2, q⟩ => ?_⟩
  unfold rEqA at q
  cases e : eqS dx dy with
  | none => rw [e] at q; exact (opd_neD hu).run pins s σ H x y v u Q I rx ry ⟨F, dx, dy, l, h1, h2, q⟩
  | some b => rw [e] at q; exact opd_ne.run pins s σ H x y v u Q I rx ry ⟨F, dx, dy, l, h1, h2, by unfold rEqS; rw [e]; exact q⟩
variable {C : Cn} {e : Expr} {u : TD} {pos : Pos}
/-! ### attributes of one's own instances -/
def lkD : List Str → List D → Str → Option D
  | n :: ns, d :: ds, f => if f == n then some d else lkD ns ds f
  | _, _, _ => none
def uFld (CA : Addr) (f : Str) (u : TD) : TD := fun ρ n Q => u ρ n fun d m => match d with
  | .ins c ns ds => c = CA ∧ match lkD ns ds f with
    | some y => Q y m
    | none => False
  | _ => False
theorem lk_of {K : PySem.W.Frag} {F : Hp} {f : Str} {y : D} : ∀ {fs : List (Str × V)} {ds : List D}, DdA K F (fs.map (·.2)) ds → lkD (fs.map (·.1)) ds f = some y → ∃ v, fs.lookup f = some v ∧ Dd K F v y
  | [], _, h, e => by cases h; cases e
  | (n, v) :: r, _, h, e => by
    cases h with
    | cons a b =>
      simp only [List.map_cons, lkD] at e
      simp only [List.lookup_cons]
      by_cases z : (f == n) = true
      · rw [if_pos z] at e
        cases e
        rw [z]
        exact ⟨v, rfl, a⟩
      · rw [if_neg z] at e
        have z2 : (f == n) = false := by simpa using z
        rw [z2]
        exact lk_of b e
theorem ue_fld {CA : Addr} {f : Str} (cl : Cls X.K CA) (na : NoAttr X.K CA f) (h : UE X C e u) (hb : attributeBase e f X.env (eval e X.env) = eval e X.env := by rfl) : UE X C (.Attribute e f pos) (uFld CA f u) := by
  refine ⟨PEw (pe_fld h.run hb) fun σ H Q ⟨F, ρ, n, rel, q⟩ => ⟨F, ρ, n, rel, h.mo _ _ _ _ (fun d m q v F1 H1 x1 m1 d1 => ?_) q⟩, fun ρ n P Q i w => h.mo _ _ _ _ (fun d m q => ?_) w⟩
  · cases d1 with
    | ins hq ha =>
      obtain ⟨rfl, q2⟩ := q
      split at q2
      · rename_i y z
        obtain ⟨v, e1, dd⟩ := lk_of ha z
        exact ⟨_, _, _, _, v, rfl, x1.le _ _ hq (fun _ z => nomatch z), cl, na, e1, q2 v F1 H1 x1 m1 dd⟩
      · exact q2.elim
    | _ => exact q.elim
  · cases d with
    | ins c ns ds =>
      refine ⟨q.1, ?_⟩
      have q := q.2
      cases z : lkD ns ds f with
      | none => rw [z] at q; exact q.elim
      | some y => rw [z] at q; exact i _ _ q
    | _ => exact q
/-! ### raise -/
def tSf (C : Addr) (fl : Str) (ta : TA) : L2.St → Hp → XK → Prop := fun σ H Q => ta σ H fun vs H1 => ∃ v, vs = [v] ∧ ∀ d H', H1 d = none → Keep [] H1 H' → H' d = some (.xd [(fl, v)]) → Q (.ref C) (some d) H'
theorem pmk_sf {X : Cx} {x p fl : Str} {C : Addr} {e : Expr} {ta : TA} {pp pos : Pos} (c : ErrS X.prog X.w X.K X.mg X.base x p fl C) (hr : Room 2 X.A) (hg : Gl X x) (ha : PA X [e] ta)
    (mono : ∀ σ H (K1 K2 : List V → Hp → Prop), (∀ vs H', K1 vs H' → K2 vs H') → ta σ H K1 → ta σ H K2)
    (hdb : (x == ("__debug__" : Str)) = false := by decide)
    (he : starEach [e] X.env = (false, eval e X.env) :: starEach [] X.env := by rfl) (hpl : (backTo pos (starEach [] X.env)).any (·.1) = false := by rfl) :
    PMk X (.Call (.Name x pp) [e] [] pos) (tSf C fl ta) := by
  obtain ⟨fI, fd, F, iC, tI, b⟩ := c.ex
  intro pins s σ H Q I h
  refine pmk_oex (p := pp) (pos := pos) c.own iC tI F hr b .nil C8.pass0 hg c.at_ ha hdb he hpl pins s σ H Q I ?_
  refine mono _ _ _ _ (fun vs H1 hv => ?_) h
  obtain ⟨v, rfl, q⟩ := hv
  refine ⟨by simp, fun a na => ⟨a, v, rfl, upd_same, fun dx nd ne => ⟨rfl, dx, [(fl, v)], upd_same, ?_, ?_, ?_⟩⟩⟩
  · rw [upd_ne ne, upd_same]
  · rw [upd_ne ne] at nd
    exact nd
  · rw [upd_ne ne] at nd
    refine q dx _ nd (Keep.ext fun b o hb => ?_) upd_same
    have nb : b ≠ dx := fun z => by rw [z, nd] at hb; cases hb
    have na' : b ≠ a := fun z => by rw [z, na] at hb; cases hb
    rw [upd_ne nb, del_ne na', upd_ne na', upd_ne nb, upd_ne na']
    exact hb
def uRaise0 (CA : Addr) (E : XD) : TDs := fun _ _ n => E CA [] [] n
def uRaiseS (CA : Addr) (fl : Str) (E : XD) (u : TD) : TDs := fun _ ρ n => u ρ n fun d m => E CA [fl] [d] m
theorem us_raise0 {E : XD} {Ev : XK} {x m : Str} {CA : Addr} {j : Nat} {p p2 pos2 : Pos} (xo : XOk X.K C E Ev) (tk : Takes X fun cls d _ H => Ev cls d H) (c : ErrC X.K X.mg x CA) (hc : X.calm = true := by rfl) (hg : Gl X x := by rfl) (hdb : (x == ("__debug__" : Str)) = false := by decide) :
    US X C (.Raise (some (.Call (.Name x p) [.Constant (.str m) j p2] [] pos)) none pos2) (uRaise0 CA E) :=
  ⟨PSw (ps_raise hc tk (pmk_err c hg hdb)) fun D σ H ⟨F, ρ, n, E', rel, ok, q⟩ => xo CA [] [] n none F H q rel.x rel.m (.inl ⟨rfl, rfl, rfl⟩)⟩
theorem us_raiseS {E : XD} {Ev : XK} {x y fl : Str} {CA : Addr} {p pos2 : Pos} (xo : XOk X.K C E Ev) (tk : Takes X fun cls d _ H => Ev cls d H) (c : ErrS X.prog X.w X.K X.mg X.base x y fl CA) (hr : Room 2 X.A) (h : UE X C e u) (hc : X.calm = true := by rfl) (hg : Gl X x := by rfl) (hdb : (x == ("__debug__" : Str)) = false := by decide)
    (he : starEach [e] X.env = (false, eval e X.env) :: starEach [] X.env := by rfl) (hpl : (backTo pos (starEach [] X.env)).any (·.1) = false := by rfl) :
    US X C (.Raise (some (.Call (.Name x p) [e] [] pos)) none pos2) (uRaiseS CA fl E u) := by
  refine ⟨PSw (ps_raise hc tk (pmk_sf c hr hg (pa_cons h.run pa_nil he) (fun σ H K1 K2 i w => ?_) hdb he hpl)) fun D σ H ⟨F, ρ, n, E', rel, ok, q⟩ => ?_⟩
  · obtain ⟨F, ρ, n, rel, w⟩ := w
    exact ⟨F, ρ, n, rel, h.mo _ _ _ _ (fun d m q v F' H' x m' dd => i _ _ (q v F' H' x m' dd)) w⟩
  · refine ⟨F, ρ, n, rel, h.mo _ _ _ _ (fun d m q v F1 H1 x1 m1 d1 => ⟨v, rfl, fun dx H2 nd k hd => ?_⟩) q⟩
    have xk : Ex p0 F1 H1 F1 H2 := ⟨Le.rfl, fun a o e t => k.toKeepW.all a o (x1.le a o e t) (fun z => nomatch z) t, fun _ _ _ _ => Eq.refl _, k.toKeepW.nil, fun _ a ps e => k.tbl a ps e⟩
    have fd := x1.le.fr (fr0_none nd)
    have xf := xk.frz (fr0_none nd) fd hd
    refine xo CA [fl] [d] m (some dx) (upd F1 dx (.xd [(fl, v)])) H2 q ((rel.x.tr x1).tr xf.up0) (C.stay m1 xf) ?_
    exact .inr ⟨dx, [(fl, v)], rfl, upd_same, rfl, .cons (d1.le (Le.upd fd)) .nil⟩
/-! ### kept exceptions -/
/-- isinstance(e, C), e a kept exception -/
def uIsx (K : PySem.W.Frag) (CA : Addr) (u : TD) : TD := fun ρ n Q => u ρ n fun d m => match d with
  | .exc c _ _ => ∃ b, ExcC K c ∧ PySem.W.kitOne K (.ref c) (.ref CA) = some b ∧ Q (.bl b) m
  | _ => False
theorem exk_of {K : PySem.W.Frag} {F H : Hp} {v : V} {c : Addr} {ns : List Str} {xs : List D} (l : Le F H) (h : Dd K F v (.exc c ns xs)) (is : ExcC K c) : ∃ a fs, v = .ref a ∧ ExK K H a c fs ∧ fs.map (·.1) = ns ∧ DdA K F (fs.map (·.2)) xs := by
  cases h with
  | @exc a _ dx fs _ q e r =>
    refine ⟨a, fs, rfl, ⟨is, ?_⟩, rfl, r⟩
    rcases e with ⟨e1, e2⟩ | ⟨d, e1, e2⟩
    · subst e1
      exact .inl ⟨l _ _ q (fun _ z => nomatch z), e2⟩
    · subst e1
      exact .inr ⟨d, l _ _ q (fun _ z => nomatch z), l _ _ e2 (fun _ z => nomatch z)⟩
theorem ue_isx {x : Str} {CA : Addr} {p p2 : Pos} (h : UE X C e u) (hm : X.mg "isinstance" = none) (hm2 : X.mg x = some (.ref CA)) (hg : Gl X "isinstance" := by rfl) (hg2 : Gl X x := by rfl) (hd : (x == ("__debug__" : Str)) = false := by decide)
    (h1 : starEach [e, .Name x p2] X.env = (false, eval e X.env) :: starEach [.Name x p2] X.env := by rfl) (h2 : starEach [.Name x p2] X.env = (false, eval (.Name x p2) X.env) :: starEach [] X.env := by rfl) (hpl : (backTo pos (starEach [.Name x p2] X.env)).any (·.1) = false := by rfl) :
    UE X C (.Call (.Name "isinstance" p) [e, .Name x p2] [] pos) (uIsx X.K CA u) := by
  refine ⟨PEw (pe_callB call_isK2 hg hm (by decide +kernel) (pa_cons h.run (pa_cons (pe_glob (v := .ref CA) hg2 hm2 rfl hd) pa_nil h2) h1) (by decide) (by decide) h1 hpl) fun σ H Q ⟨F, ρ, n, rel, q⟩ => ⟨F, ρ, n, rel, h.mo _ _ _ _ (fun d m q v F1 H1 x1 m1 d1 => ?_) q⟩, fun ρ n P Q i w => h.mo _ _ _ _ (fun d m q => ?_) w⟩
  · cases d with
    | exc c ns xs =>
      obtain ⟨b, is, k, q⟩ := q
      obtain ⟨a, fs, rfl, ek, _, _⟩ := exk_of x1.le d1 is
      exact ⟨a, c, CA, fs, b, rfl, ek, k, q _ F1 H1 x1 m1 (.bl b)⟩
    | _ => exact q.elim
  · cases d with
    | exc c ns xs =>
      obtain ⟨b, is, k, q⟩ := q
      exact ⟨b, is, k, i _ _ q⟩
    | _ => exact q.elim
def uXat (K : PySem.W.Frag) (f : Str) (u : TD) : TD := fun ρ n Q => u ρ n fun d m => match d with
  | .exc c ns xs => ExcC K c ∧ XfC K c ∧ PySem.W.findIn K (.ref c) f = some none ∧ ∃ y, lkD ns xs f = some y ∧ Q y m
  | _ => False
theorem ue_xat {f : Str} (h : UE X C e u) (hb : attributeBase e f X.env (eval e X.env) = eval e X.env := by rfl) : UE X C (.Attribute e f pos) (uXat X.K f u) := by
  refine ⟨PEw (pe_xk h.run hb) fun σ H Q ⟨F, ρ, n, rel, q⟩ => ⟨F, ρ, n, rel, h.mo _ _ _ _ (fun d m q v F1 H1 x1 m1 d1 => ?_) q⟩, fun ρ n P Q i w => h.mo _ _ _ _ (fun d m q => ?_) w⟩
  · cases d with
    | exc c ns xs =>
      obtain ⟨is, xf, fn, y, lk, q⟩ := q
      obtain ⟨a, fs, rfl, ek, e1, e2⟩ := exk_of x1.le d1 is
      subst e1
      obtain ⟨v, hv, dd⟩ := lk_of e2 lk
      exact ⟨a, c, fs, v, rfl, ek, xf, fn, hv, q v F1 H1 x1 m1 dd⟩
    | _ => exact q.elim
  · cases d with
    | exc c ns xs =>
      obtain ⟨is, xf, fn, y, lk, q⟩ := q
      exact ⟨is, xf, fn, y, lk, i _ _ q⟩
    | _ => exact q.elim
end
/-! ## forms of promises -/
/-- a function of its arguments -/
def spF {α : Type} (args : α → List D) (pre : α → Prop) (res : α → D) : SpD := fun ds n Q _ => ∃ x, ds = args x ∧ pre x ∧ Q (res x) n
theorem mo_F {α : Type} {args : α → List D} {pre : α → Prop} {res : α → D} : MoSp (spF args pre res) := fun ds n Q Q' E E' i _ ⟨x, h1, h2, h3⟩ => ⟨x, h1, h2, i _ _ h3⟩
/-- one of several things, the ghost goes on -/
def spN {α : Type} (args : α → List D) (pre : α → Nat → Prop) (R : α → Nat → D → Nat → Prop) : SpD := fun ds n Q _ => ∃ x, ds = args x ∧ pre x n ∧ ∀ d m, R x n d m → Q d m
theorem mo_N {α : Type} {args : α → List D} {pre : α → Nat → Prop} {R : α → Nat → D → Nat → Prop} : MoSp (spN args pre R) := fun ds n Q Q' E E' i _ ⟨x, h1, h2, h3⟩ => ⟨x, h1, h2, fun d m r => i _ _ (h3 d m r)⟩
/-- it returns or raises -/
inductive Res where
  | ok (d : D)
  | er (c : Addr) (ns : List Str) (xs : List D)
def Res.put (r : Res) (n : Nat) (Q : D → Nat → Prop) (E : XD) : Prop := match r with
  | .ok d => Q d n
  | .er c ns xs => E c ns xs n
def spX {α : Type} (args : α → List D) (pre : α → Prop) (res : α → Res) : SpD := fun ds n Q E => ∃ x, ds = args x ∧ pre x ∧ (res x).put n Q E
theorem mo_X {α : Type} {args : α → List D} {pre : α → Prop} {res : α → Res} : MoSp (spX args pre res) := fun ds n Q Q' E E' i j ⟨x, h1, h2, h3⟩ => ⟨x, h1, h2, by
  unfold Res.put at h3 ⊢
  split <;> rename_i e <;> simp only [e] at h3
  · exact i _ _ h3
  · exact j _ _ _ _ h3⟩
end PU
set_option maxHeartbeats 2000000
namespace PU
open PySem PySem.Spec PyProof.Rows L2 HG LamX
/-! ## lambdas -/
/-- own lists are not known within a lambda -/
def fro : List S → List S
  | [] => []
  | .d x :: r => .d x :: fro r
  | _ :: r => .u :: fro r
theorem fro_length : ∀ ρ : List S, (fro ρ).length = ρ.length
  | [] => rfl
  | .d _ :: r => congrArg (· + 1) (fro_length r)
  | .u :: r => congrArg (· + 1) (fro_length r)
  | .o _ _ :: r => congrArg (· + 1) (fro_length r)
  | .q _ _ _ :: r => congrArg (· + 1) (fro_length r)
theorem gt_fro : ∀ (ρ : List S) (i : Nat), (∃ x, gt ρ i = .d x ∧ gt (fro ρ) i = .d x) ∨ gt (fro ρ) i = .u
  | [], _ => .inr rfl
  | .d x :: r, 0 => .inl ⟨x, rfl, rfl⟩
  | .u :: r, 0 => .inr rfl
  | .o _ _ :: r, 0 => .inr rfl
  | .q _ _ _ :: r, 0 => .inr rfl
  | .d _ :: r, i + 1 => gt_fro r i
  | .u :: r, i + 1 => gt_fro r i
  | .o _ _ :: r, i + 1 => gt_fro r i
  | .q _ _ _ :: r, i + 1 => gt_fro r i
/-- the ghost of a def that makes lambdas -/
structure LamOk (C : Cn) (T : List (Addr × Str)) : Prop where
  lam : C.pol.lam = true
  tabs : ∀ n H, C.M n H → Tabs T H
  re : ∀ n H H1, C.M n H → ExtN H H1 → Tabs T H1 → C.M n H1
theorem extN_keepW {ex : List Addr} {H H' : Hp} (e : ExtN H H') : KeepW ex H H' :=
  ⟨fun a o h _ t => e a o h t, fun a xs h => e a _ h (fun _ z => nomatch z), fun a o u h => e a _ h (fun _ z => nomatch z), fun a o h t => ⟨o, e a o h t, t⟩⟩
section
variable {K : PySem.W.Frag} {C : Cn} {F : Hp} {ρ : List S} {n : Nat} {σ : L2.St} {H H1 : Hp} {T : List (Addr × Str)}
theorem ex_lam (L : LamOk C T) (l : Le F H) (e : ExtN H H1) : Ex C.pol F H F H1 :=
  ⟨Le.rfl, fun a o h t => e a o (l a o h t) t, fun _ _ _ _ => rfl, extN_keepW e, fun z => by rw [L.lam] at z; cases z⟩
/-- the slots within the lambda -/
theorem Rel.fro (r : Rel K C F ρ n σ H) : Rel K (cnOf C.toGh F H) F (fro ρ) n σ H := by
  have no : ∀ a, a ∉ owns (PU.fro ρ) := fun a m => by
    obtain ⟨i, m⟩ := owns_mem.mp m
    rcases gt_fro ρ i with ⟨x, _, e⟩ | e
    · rw [e] at m; cases m
    · rw [e] at m; cases m
  refine ⟨Ex.rfl r.le, r.m, by rw [fro_length]; exact r.len, fun i => ?_, fun i j a m => absurd (owns_mem.mpr ⟨i, m⟩) (no a), fun a m => absurd m (no a)⟩
  rcases gt_fro ρ i with ⟨x, e1, e⟩ | e
  · have q := r.sl i
    rw [e1] at q
    rw [e]
    exact q
  · rw [e]
    trivial
end
/-- caught: what the task's exception becomes -/
def TTk (K : PySem.W.Frag) (CE : Addr) : (XK → Hp → VK → Prop) → Hp → VK → Prop := fun tl H Q =>
  tl (fun cls d H' => PySem.W.exmOne K cls (.ref CE) = some true ∧ ∀ a, H' a = none → Q (.ref a) (upd H' a (Exn cls d a))) H
    fun _ H' => ∃ v, (some (some V.non) : Option (Option V)) = some (some v) ∧ Q v H'
def uCaught (K : PySem.W.Frag) (CE : Addr) (xu : XD → TD) : TD := fun ρ n Q =>
  xu (fun c ns xs m => PySem.W.exmOne K (.ref c) (.ref CE) = some true ∧ Q (.exc c ns xs) m) (fro ρ) n fun _ m => Q .non m
/-- the reading of a lambda's body -/
def tX (K : PySem.W.Frag) (G : Gh) (xu : XD → TD) (E : XK) : TE := fun σ H Q => ∃ (F0 H0 : Hp) (Ed : XD), (cnOf G F0 H0).Ok ∧ XOk K (cnOf G F0 H0) Ed E ∧ tE K (cnOf G F0 H0) (xu Ed) σ H Q
theorem caught_read {K : PySem.W.Frag} {C : Cn} {CE : Addr} {T : List (Addr × Str)} {xu : XD → TD} (ok : C.Ok) (L : LamOk C T) (mo : ∀ Ed, Mo (xu Ed)) {σ : L2.St} {H : Hp} {Q : VK} (h : tE K C (uCaught K CE xu) σ H Q) :
    tLam T (TTk K CE) (tX K C.toGh xu) σ H Q := by
  obtain ⟨F, ρ, n, rel, q⟩ := h
  refine ⟨L.tabs n H rel.m, fun H1 eN T1 => ?_⟩
  have x1 := ex_lam L rel.le eN
  have rel1 := rel.stepG x1 (L.re n H H1 rel.m eN T1)
  refine ⟨F, H1, _, ⟨ok.sub, ok.fr rel1.x, fun b m => C.dm n H1 rel1.m b (ok.sub b m)⟩, ?_, F, fro ρ, n, rel1.fro, mo _ _ _ _ _ (fun d m q v F2 H2 x2 m2 _ => ?_) q⟩
  · intro c ns xs m dx F2 H2 ⟨hit, q⟩ x2 m2 ea
    refine ⟨hit, fun a na => ?_⟩
    have x3 : Ex p0 F2 H2 (upd F2 a (Exn (.ref c) dx a)) (upd H2 a (Exn (.ref c) dx a)) := Ex.newF x2.le na
    refine q _ (upd F2 a (Exn (.ref c) dx a)) _ ((x1.tr x2).tr x3.up0) (C.stay m2 x3) ?_
    rcases ea with ⟨e1, e2, e3⟩ | ⟨d, fs, e1, e2, e3, e4⟩
    · subst e1 e2 e3
      exact .exc (fs := []) upd_same (.inl ⟨rfl, rfl⟩) .nil
    · subst e1 e3
      exact .exc upd_same (.inr ⟨d, rfl, x3.up _ _ e2 (fun _ z => nomatch z)⟩) (e4.le x3.up)
  · exact ⟨.non, rfl, q _ F2 H2 (x1.tr x2) m2 .non⟩
theorem mo_caught {K : PySem.W.Frag} {CE : Addr} {xu : XD → TD} (mo : ∀ Ed, Mo (xu Ed)) (mx : ∀ E E' ρ n Q, (∀ c ns xs m, E c ns xs m → E' c ns xs m) → xu E ρ n Q → xu E' ρ n Q) : Mo (uCaught K CE xu) := fun ρ n P Q i w =>
  mx _ _ _ _ _ (fun c ns xs m z => ⟨z.1, i _ _ z.2⟩) (mo _ _ _ _ _ (fun d m => i _ m) w)
section
variable {X : Cx} {C : Cn}
/-- x(lambda: body), x catching -/
theorem ue_lamcall {CE c P : Addr} {T : List (Addr × Str)} {k : Nat} {x a : Str} {params : Arguments} {body : Expr} {scope : Scope} {xu : XD → TD} {p lpos pos : Pos} (ok : C.Ok) (L : LamOk C T)
    (pe : ∀ t : XK → TE, (∀ (A : Around) (outer : List Env) (s : Shared) (H : Hp) (E : XK) (f c' : Addr), Room k (A.deeper (lamEnv X scope s.heap.objs.size f c')) → PE (lamCx X A outer s H E scope f c') body (t E)) →
      PE X (.Call (.Name x p) [.Lambda params body scope lpos] [] pos) (tLam T (TTk X.K CE) t))
    (mo : ∀ Ed, Mo (xu Ed)) (mx : ∀ E E' ρ n Q, (∀ c ns xs m, E c ns xs m → E' c ns xs m) → xu E ρ n Q → xu E' ρ n Q)
    (hbody : ∀ (A : Around) (outer : List Env) (s : Shared) (H : Hp) (Ev : XK) (f c' : Addr) (F0 H0 : Hp) (E : XD), Room k (A.deeper (lamEnv X scope s.heap.objs.size f c')) → (cnOf C.toGh F0 H0).Ok → XOk X.K (cnOf C.toGh F0 H0) E Ev →
      UE (lamCx X A outer s H Ev scope f c') (cnOf C.toGh F0 H0) body (xu E)) :
    UE X C (.Call (.Name x p) [.Lambda params body scope lpos] [] pos) (uCaught X.K CE xu) :=
  ⟨PEw (pe (tX X.K C.toGh xu) fun A outer s H E f c' hr => ⟨fun pins s1 σ H1 Q I ⟨F0, H0, Ed, ok', xo, q⟩ => (hbody A outer s H E f c' F0 H0 Ed hr ok' xo).run.run pins s1 σ H1 Q I q⟩) fun σ H Q h => caught_read ok L mo h, mo_caught mo mx⟩
end
end PU
set_option maxHeartbeats 2000000
namespace HG
open PySem PySem.Spec PyProof.Rows L2 LamX
/-- a def that makes lambdas: its code object stands at c -/
structure DefC (K : PySem.W.Frag) (mg : Str → Option Value) (x : Str) (st : Stmt) (ps : List Str) (c : Addr) : Prop where
  ex : ∃ (f : Addr) (oc : Value) (od : Option Addr) (kV doc pm : Value) (an : Option Addr) (ct : Value) (osl : Array (Option Value)),
    K.lookup f = some ⟨oc, od, .func (PySem.W.fnOf x x (defArgs st) (defBody st) (defScope st) .none kV doc pm an (.ref c) ct), osl⟩ ∧
    PySem.W.codeIn K (.ref c) x = true ∧ PySem.W.keepIn K (.ref f) = true ∧ mg x = some (.ref f) ∧
    Binds K (PySem.W.fnOf x x (defArgs st) (defBody st) (defScope st) .none kV doc pm an (.ref c) ct) ps []
section
variable {P : Program} {w : World} {K : PySem.W.Frag} {mg : Str → Option Value} {base : Heap}
theorem DefC.ok {x : Str} {st : Stmt} {N ps : List Str} {k : Nat} {sp : Sp} {c : Addr} (D : DefC K mg x st ps c) (S : FnScope N ps (defScope st))
    (len : ∀ vs H Q E, sp vs H Q E → vs.length = ps.length)
    (body : ∀ (f : Addr) (A : Around) (outer : List Env) (s : Shared) (H : Hp) (vs : List V) (Q : VK) (E : XK),
      Room k (A.deeper (envOfC x (defScope st) s.heap.objs.size f (.ref c))) → sp vs H Q E →
      ∃ t, PSs (cxOf CX0 P w K mg base N x (defScope st) f (.ref c) A outer s H E).nox (defBody st) t ∧
        t { nx := fun _ H' => Q .non H', rt := Q } (start N vs) H) :
    Callee P w K mg base CX0 (k + 1) x ps sp := by
  obtain ⟨f, oc, od, kV, doc, pm, an, ct, osl, lk, cd, kp, m, b⟩ := D.ex
  refine ⟨f, _, fn_of lk cd S len fun A outer s H vs Q E hr h => ?_, m, kp, b, ⟨_, _, _, lk⟩⟩
  obtain ⟨t, ht, q⟩ := body f A outer s H vs Q E hr h
  exact ⟨t, ht.nox, q⟩
theorem DefC.okP {x : Str} {st : Stmt} {N ps : List Str} {k : Nat} {sp : Sp} {c : Addr} (D : DefC K mg x st ps c) (S : FnScope N ps (defScope st))
    (len : ∀ vs H Q E, sp vs H Q E → vs.length = ps.length)
    (body : ∀ (f : Addr) (A : Around) (outer : List Env) (s : Shared) (H : Hp) (vs : List V) (Q : VK) (E : XK),
      NoG (A.deeper (envOfC x (defScope st) s.heap.objs.size f (.ref c))) →
      Room k (A.deeper (envOfC x (defScope st) s.heap.objs.size f (.ref c))) → sp vs H Q E →
      ∃ t, PSs (cxOf CX0 P w K mg base N x (defScope st) f (.ref c) A outer s H E).nox (defBody st) t ∧
        t { nx := fun _ H' => Q .non H', rt := Q } (start N vs) H) :
    CalleeP P w K mg base CX0 (k + 1) x ps sp := by
  obtain ⟨f, oc, od, kV, doc, pm, an, ct, osl, lk, cd, kp, m, b⟩ := D.ex
  refine ⟨f, _, ⟨len, fun A frames s H given us vs Q E room ng e0 hb hv hs => ?_⟩, m, kp, b, ⟨_, _, _, lk⟩⟩
  refine LamX.run_ofS lk cd S room e0 hb hv (len _ _ _ _ hs) fun room' => ?_
  obtain ⟨t, h, q⟩ := body f A frames s H vs Q E ng room' hs
  exact ⟨t, h.nox, q⟩
end
theorem passL2 {X : Cx} {A : Around} {outer : List Env} {s : Shared} {H : Hp} {E : XK} {scope : Scope} {f c' : Addr} :
    Passes (L2.CX X.prog X.w) (lamCx X A outer s H E scope f c') E :=
  passes_call (W := fun cls d _ H => E cls d H) (takes_of rfl rfl rfl rfl) (fun _ _ _ _ h => h)
end HG
set_option maxHeartbeats 2000000
namespace HG
open PySem PySem.Spec PyProof.Rows L2
theorem te_join {t : TE} {σ : L2.St} {H : Hp} {Q : VK} (R : V → Hp → Prop) (a : ∀ NX : VK, (∀ v H', R v H' → NX v H') → t σ H NX) (b : ∀ v H', R v H' → Q v H') : t σ H Q := a Q b
theorem kwb3 {x p q r : Str} {st : Stmt} (h : ∀ (kV doc pm : Value) (an : Option Addr) (cdv ct a b c : Value),
    bindArgs (PySem.W.fnOf x x (defArgs st) (defBody st) (defScope st) .none kV doc pm an cdv ct) ⟨[], [(r, c), (q, b), (p, a)]⟩ = pure [(p, a), (q, b), (r, c)]) : KwB x st [p, q, r] [r, q, p] := by
  intro kV doc pm an cdv ct ws l
  match ws, l with
  | [c, b, a], _ => exact h kV doc pm an cdv ct a b c
/-- the last two of three exchanged -/
def sw {α : Type} : List α → List α
  | [a, b, c] => [a, c, b]
  | l => l
theorem sw_len {α : Type} : ∀ l : List α, (sw l).length = l.length
  | [] => rfl
  | [_] => rfl
  | [_, _] => rfl
  | [_, _, _] => rfl
  | _ :: _ :: _ :: _ :: _ => rfl
theorem vals_sw : ∀ {vs : List V} {us : List Value}, Vals vs us → Vals (sw vs) (sw us)
  | _, _, .nil => .nil
  | _, _, .cons a .nil => .cons a .nil
  | _, _, .cons a (.cons b .nil) => .cons a (.cons b .nil)
  | _, _, .cons a (.cons b (.cons c .nil)) => .cons a (.cons c (.cons b .nil))
  | _, _, .cons a (.cons b (.cons c (.cons d t))) => .cons a (.cons b (.cons c (.cons d t)))
def KwS (x : Str) (st : Stmt) (ps ks : List Str) : Prop :=
  ∀ (kV doc pm : Value) (an : Option Addr) (cdv ct : Value) (ws : List Value), ws.length = ps.length →
    bindArgs (PySem.W.fnOf x x (defArgs st) (defBody st) (defScope st) .none kV doc pm an cdv ct) ⟨[], ks.zip ws⟩ = pure (ps.zip (sw ws))
theorem kws3 {x p q r : Str} {st : Stmt} (h : ∀ (kV doc pm : Value) (an : Option Addr) (cdv ct a b c : Value),
    bindArgs (PySem.W.fnOf x x (defArgs st) (defBody st) (defScope st) .none kV doc pm an cdv ct) ⟨[], [(p, a), (r, c), (q, b)]⟩ = pure [(p, a), (q, b), (r, c)]) : KwS x st [p, q, r] [p, r, q] := by
  intro kV doc pm an cdv ct ws l
  match ws, l with
  | [a, c, b], _ => exact h kV doc pm an cdv ct a b c
section
variable {X : Cx} {CX : CXT} {k n : Nat} {ps ks : List Str} {sp : Sp} {E : XK} {x : Str} {p pos : Pos} {kws : List Keyword} {tk : TA} {st : Stmt}
def tKwS (sp : Sp) (E : XK) (tk : TA) : TE := fun σ H Q => tk σ H fun zs H1 => sp (sw zs) H1 Q E
theorem pe_kwS (C : Callee X.prog X.w X.K X.mg X.base CX k x ps sp) (D : Def X.K X.mg x st ps) (B : KwS x st ps ks) (room : Room n X.A) (lets : Passes CX X E)
    (named : PK X kws tk) (hk : k ≤ n := by decide) (glob : Gl X x := by rfl)
    (hall : (backToKw pos (keywordEach kws X.env)).all (·.1.isSome) = true := by rfl)
    (hks : (backToKw pos (keywordEach kws X.env)).filterMap (·.1) = ks := by rfl)
    (hdb : (x == ("__debug__" : Str)) = false := by decide)
    (hpl : ((backTo pos (starEach [] X.env)).any (·.1) || (backToKw pos (keywordEach kws X.env)).any (·.1.isNone)) = false := by rfl) :
    PE X (.Call (.Name x p) [] kws pos) (tKwS sp E tk) := by
  obtain ⟨f, fd, F, m, kp, _, c1, d1, s1, at1⟩ := C.ex
  obtain ⟨f2, fd2, F2, m2, _⟩ := D.ex
  rw [m] at m2
  cases m2
  obtain ⟨c2, d2, kV, doc, pm, an, cdv, ct, s2, same, at2, _⟩ := F2.ex
  rw [at1] at at2
  cases at2
  refine ⟨fun pins s σ H Q I h => ?_⟩
  refine wpAny_Call_Name_kw (ld_glob I glob m ?_ hdb)
  refine PySem.W.callWith_KW0 (h₀ := X.base) I.ok.mod.kin kp hall (thn (named.run pos pins s σ H _ I h) fun ws z ⟨zs, H2, I2, rz, q2⟩ => ⟨I2.kIn, ?_⟩) hpl
  rw [hks]
  have rv := vals_sw rz
  have len : ws.length = ps.length := by
    rw [← rz.length, ← sw_len]
    exact F.len _ _ _ _ q2
  have b : BindsTo z fd ⟨[], ks.zip ws⟩ (ps.zip (sw ws)) := by
    rw [same]
    exact .of_eq (B kV doc pm an cdv ct ws len)
  refine wpAny_call (codeAny_mono (F.run X.A X.stack z H2 ⟨[], ks.zip ws⟩ (sw ws) (sw zs) Q E (room.mono hk) I2.env0 b rv q2) fun r s' hq => ?_)
  match r, hq with
  | .error e, hq => exact lets pins σ H2 z e s' I2 hq
  | .ok (.ret u), hq => exact I2.after hq
  | .ok .next, hq => exact False.elim hq
  | .ok .brk, hq => exact False.elim hq
  | .ok .cont, hq => exact False.elim hq
end
end HG
set_option maxHeartbeats 2000000
namespace HG
open PySem PySem.Spec PyProof.Rows L2
/-! ## data whose texts are short -/
theorem int_short {a : Int} (h : a.natAbs < 2 ^ 100) : (Str.ofString (toString a)).length ≤ 102 := by
  have e := int_text_length_le (a := a) (k := 100) (by decide) (by
    by_cases z : a.natAbs = 0
    · rw [z]
      decide
    · exact (Nat.log2_lt z).mpr h)
  rw [PySem.ofString_length]
  omega
theorem int_log {a : Int} (h : a.natAbs < 2 ^ 100) : a.natAbs.log2 < 1920 := by
  by_cases z : a.natAbs = 0
  · rw [z]
    decide
  · exact Nat.lt_of_lt_of_le ((Nat.log2_lt z).mpr h) (by decide)
/-- a datum of depth at most k whose text has at most n signs -/
structure Sh (k n : Nat) (d : PyData) : Prop where
  showable : d.showable = true
  noDict : d.hasDict = false
  depth : d.depth ≤ k
  len : d.shown.length ≤ n
theorem sh_int {a : Int} (h : a.natAbs < 2 ^ 100) : Sh 0 102 (.int a) := by
  refine ⟨by simp only [PyData.showable]; exact decide_eq_true (int_log h), by simp only [PyData.hasDict], by simp only [PyData.depth]; omega, ?_⟩
  simp only [PyData.shown]
  exact int_short h
theorem sh_all {k n : Nat} : ∀ {ds : List PyData}, (∀ d ∈ ds, Sh k n d) → PyData.showableAll ds = true ∧ PyData.hasDictAll ds = false ∧ PyData.depthAll ds ≤ k ∧ ((PyData.shownAll ds).map (·.length)).sum ≤ n * ds.length ∧ (PyData.shownAll ds).length = ds.length
  | [], _ => by simp [PyData.showableAll, PyData.hasDictAll, PyData.depthAll, PyData.shownAll]
  | d :: r, h => by
    obtain ⟨a1, a2, a3, a4, a5⟩ := sh_all (ds := r) fun x m => h x (List.mem_cons_of_mem _ m)
    have hd := h d List.mem_cons_self
    have b3 := hd.depth
    have b4 := hd.len
    refine ⟨by simp only [PyData.showableAll, hd.showable, a1, Bool.and_self], by simp only [PyData.hasDictAll, hd.noDict, a2, Bool.or_self], by simp only [PyData.depthAll]; omega, ?_, by simp only [PyData.shownAll, List.length_cons, a5]⟩
    simp only [PyData.shownAll, List.map_cons, List.sum_cons, List.length_cons]
    rw [Nat.mul_succ]
    omega
theorem sh_tup {k n : Nat} {ds : List PyData} (h : ∀ d ∈ ds, Sh k n d) : Sh (k + 1) (n * ds.length + 2 * ds.length + 3) (.tuple ds) := by
  obtain ⟨a1, a2, a3, a4, a5⟩ := sh_all h
  refine ⟨by simp only [PyData.showable, a1], by simp only [PyData.hasDict, a2], by simp only [PyData.depth]; omega, ?_⟩
  simp only [PyData.shown]
  have l := tupleText_len_le (PyData.shownAll ds)
  rw [a5] at l
  omega
theorem Sh.more {k n k' n' : Nat} {d : PyData} (h : Sh k n d) (hk : k ≤ k') (hn : n ≤ n') : Sh k' n' d := ⟨h.showable, h.noDict, Nat.le_trans h.depth hk, Nat.le_trans h.len hn⟩
end HG
set_option maxHeartbeats 2000000
namespace PU
open PySem PySem.Spec PyProof.Rows L2 HG LamX
section
variable {X : Cx} {C : Cn} {e a : Expr} {es : List Expr} {u ua : TD} {us : TDa} {pos : Pos}
/-! ## xs + ys, lists that are read -/
theorem cat_raw {P : Program} {w : World} {A : Around} {s : Shared} {E Q : Value → Shared → Prop} {p q : Addr} {xs ys : List Value} (hp : s.heap.IsList p xs.toArray) (hq : s.heap.IsList q ys.toArray) (small : xs.length + ys.length ≤ sizeLine)
    (fin : Q (.ref s.heap.objs.size) { s with heap := s.heap.push { cls := .type "list", data := .seq (xs ++ ys).toArray } }) : wpAny (model P w) A (binaryOp .Add (.ref p) (.ref q)) Q E s := by
  obtain ⟨⟨c1, d1, da1, s1⟩, at1, k1, n1, z1⟩ := hp
  obtain ⟨⟨c2, d2, da2, s2⟩, at2, k2, n2, z2⟩ := hq
  dsimp only at k1 z1 k2 z2
  subst k1 z1 k2 z2
  have both : xs.toArray ++ ys.toArray = (xs ++ ys).toArray := List.append_toArray ..
  refine concat_meets ⟨_, at1, rfl⟩ ⟨_, at2, rfl⟩ noFill_list_add seq_list_add PySem.F.slot_list_add PySem.F.entry_list_add (PySem.F.args_list_add_2 _ _) (list_addW p q xs.toArray ys.toArray n1 n2 d1 d2 s1 s2 ?_) ⟨at1, at2, ?_⟩
  · simpa using small
  · rw [both]
    exact fin
theorem op_catL : OpR X (binaryOp .Add) fun x y H Q => ∃ p q xs ys, x = .ref p ∧ y = .ref q ∧ SqL X.K H p xs ∧ SqL X.K H q ys ∧ xs.length + ys.length ≤ sizeLine ∧ ∀ r, H r = none → Q (.ref r) (upd H r (.lst (xs ++ ys))) := by
  intro pins s σ H x y v w Q I rx ry ⟨p, q, xs, ys, e1, e2, h1, h2, z, k⟩
  subst e1 e2
  obtain rfl : v = .ref p := rx
  obtain rfl : w = .ref q := ry
  obtain ⟨t1, r1, l1, _⟩ := I.list h1
  obtain ⟨t2, r2, l2, _⟩ := I.list h2
  refine cat_raw l1.isList l2.isList (by rw [← r1.length, ← r2.length]; exact z) ⟨.ref s.heap.objs.size, _, I.lnew (t' := s.toks) (r1.append r2) (by rw [List.length_append]; exact z), rfl, k _ I.fresh⟩
/-- + of ints, texts, tuples, lists -/
def rPlus : D → D → (D → Prop) → Prop
  | .int a, .int b, Q => Q (.int (a + b))
  | .str a, .str b, Q => a.length + b.length ≤ sizeLine ∧ Q (.str (a ++ b))
  | .tup a, .tup b, Q => a.length + b.length ≤ sizeLine ∧ Q (.tup (a ++ b))
  | .lst a, .lst b, Q => a.length + b.length ≤ sizeLine ∧ Q (.lst (a ++ b))
  | _, _, _ => False
theorem mo_plus : MoR rPlus := fun x y P Q i h => by
  cases x <;> cases y <;> first | exact h | exact i _ h | exact ⟨h.1, i _ h.2⟩
theorem opd_plus : OpD X (binaryOp .Add) rPlus := by
  refine ⟨mo_plus, fun pins s σ H x y v w Q I rx ry ⟨F, dx, dy, l, h1, h2, q⟩ => ?_⟩
  match dx, dy, h1, h2, q with
  | .lst a, .lst b, .lst q1 a1, .lst q2 a2, q =>
    exact op_catL pins s σ H _ _ v w Q I rx ry ⟨_, _, _, _, rfl, rfl, SqL.le l q1, SqL.le l q2, by rw [a1.length, a2.length]; exact q.1, fun p np => q.2 _ _ _ (Ex.newF l np) (dd_lstN (a1.append a2) (l.fr (fr0_none np)))⟩
  | .int a, .int b, h1, h2, q => exact opd_add.run pins s σ H x y v w Q I rx ry ⟨F, _, _, l, h1, h2, q⟩
  | .str a, .str b, h1, h2, q => exact opd_add.run pins s σ H x y v w Q I rx ry ⟨F, _, _, l, h1, h2, q⟩
  | .tup a, .tup b, h1, h2, q => exact opd_add.run pins s σ H x y v w Q I rx ry ⟨F, _, _, l, h1, h2, q⟩
/-! ## texts -/
/-- the signs of a text -/
def sgs (z : Str) : List D := z.cps.toList.map fun c => .str ⟨#[c]⟩
def uStrI (u : TD) : TDi := fun ρ n Q => u ρ n fun d m => match d with
  | .str z => Q (sgs z) m
  | _ => False
theorem ui_str {tg : Expr} (h : UE X C e u) : UI X C tg e (uStrI u) := by
  refine ⟨PIw (pi_str h.run) fun σ H R ⟨F, ρ, n, rel, q⟩ => ⟨F, ρ, n, rel, h.mo _ _ _ _ (fun d m q v F1 H1 x1 m1 d1 => ?_) q⟩, fun ρ n P Q i w => h.mo _ _ _ _ (fun d m q => by cases d <;> first | exact i _ _ q | exact q) w⟩
  cases d1 with
  | str z =>
    refine ⟨z, rfl, q (Its z) F1 H1 x1 m1 ⟨fun _ => True, fun i H x H' => H' = H ∧ ∃ c, z.cps[i]? = some c ∧ x = .str ⟨#[c]⟩, ?_, fun _ _ => trivial, fun i H x H' F1 l l1 y => ?_⟩⟩
    · have e : (sgs z).length = z.cps.size := by unfold sgs; simp
      rw [e]
      exact walk_str
    · obtain ⟨rfl, c, hc, rfl⟩ := y
      refine ⟨F1, .str ⟨#[c]⟩, ?_, Ex.rfl l1, .str _⟩
      unfold sgs
      rw [List.getElem?_map]
      have : z.cps.toList[i]? = some c := by simpa using hc
      rw [this]
      rfl
  | _ => exact q.elim
/-- sep.join(rows of texts) -/
def uJoin (u ua : TD) : TD := fun ρ n Q => u ρ n fun d m => match d with
  | .str a => ua ρ m fun e k => ∃ ys : List Str, (e = .lst (ys.map .str) ∨ e = .tup (ys.map .str)) ∧ (ys.map (·.length)).sum + ys.length * a.length ≤ 16777216 ∧ Q (.str (Txt.join a ys)) k
  | _ => False
theorem ue_join {ap : Pos} (h : UE X C e u) (ha : UE X C a ua) (hs : starEach [a] X.env = [(false, eval a X.env)] := by rfl) (hb : attributeBase e "join" X.env (eval e X.env) = eval e X.env := by rfl) (hl : (ap.endLine == pos.line) = true := by rfl) :
    UE X C (.Call (.Attribute e "join" ap) [a] [] pos) (uJoin u ua) := by
  refine ⟨PEw (pe_join h.run ha.run hs hb hl) fun σ H Q ⟨F, ρ, n, rel, q⟩ => ⟨F, ρ, n, rel, h.mo _ _ _ _ (fun d m q v F1 H1 x1 m1 d1 => ?_) q⟩, fun ρ n P Q i w => h.mo _ _ _ _ (fun d m q => ?_) w⟩
  · cases d1 with
    | str z =>
      refine ⟨⟨z, rfl⟩, F1, ρ, m, rel.stepG x1 m1, ha.mo _ _ _ _ (fun e k q v F2 H2 x2 m2 d2 => ?_) q⟩
      obtain ⟨ys, h1, h2, h3⟩ := q
      rcases h1 with rfl | rfl
      · cases d2 with
        | lst hq hA =>
          obtain rfl := vals_strs hA
          exact ⟨z, _, ys, rfl, rfl, .inl (SqL.le x2.le hq), h2, h3 _ F2 H2 (x1.tr x2) m2 (.str _)⟩
      · cases d2 with
        | tup hq hA =>
          obtain rfl := vals_strs hA
          exact ⟨z, _, ys, rfl, rfl, .inr (SqT.le x2.le hq), h2, h3 _ F2 H2 (x1.tr x2) m2 (.str _)⟩
    | _ => exact q.elim
  · cases d with
    | str z => exact ha.mo _ _ _ _ (fun e k ⟨ys, a1, a2, a3⟩ => ⟨ys, a1, a2, i _ _ a3⟩) q
    | _ => exact q
/-- text.split(text) -/
def uSplit (u ua : TD) : TDl := fun ρ n Q => u ρ n fun d m => match d with
  | .str a => ua ρ m fun e k => match e with
    | .str b => (b.length == 0) = false ∧ a.length + 2 ≤ sizeLine ∧ Q ((Txt.split a b).map .str) k
    | _ => False
  | _ => False
theorem ul_split {ap : Pos} (h : UE X C e u) (ha : UE X C a ua) (hs : starEach [a] X.env = [(false, eval a X.env)] := by rfl) (hb : attributeBase e "split" X.env (eval e X.env) = eval e X.env := by rfl) (hl : (ap.endLine == pos.line) = true := by rfl) :
    UL X C (.Call (.Attribute e "split" ap) [a] [] pos) (uSplit u ua) := by
  refine ⟨PEw (pe_split h.run ha.run hs hb hl) fun σ H Q ⟨F, ρ, n, rel, q⟩ => ⟨F, ρ, n, rel, h.mo _ _ _ _ (fun d m q v F1 H1 x1 m1 d1 => ?_) q⟩, fun ρ n P Q i w => h.mo _ _ _ _ (fun d m q => ?_) w⟩
  · cases d1 with
    | str z =>
      refine ⟨⟨z, rfl⟩, F1, ρ, m, rel.stepG x1 m1, ha.mo _ _ _ _ (fun e k q v F2 H2 x2 m2 d2 => ?_) q⟩
      cases d2 with
      | str y => exact ⟨z, y, rfl, rfl, q.1, q.2.1, fun p np => q.2.2 p _ F2 _ ((x1.tr x2).tr (Ex.newO x2.le np)) (C.stay m2 (Ex.newO x2.le np)) ((x1.tr x2).keep.none np) (x2.le.fr (fr0_none np)) upd_same (dda_strs _)⟩
      | _ => exact q.elim
    | _ => exact q.elim
  · cases d with
    | str z =>
      refine ha.mo _ _ _ _ (fun e k q => ?_) q
      cases e with
      | str y => exact ⟨q.1, q.2.1, i _ _ q.2.2⟩
      | _ => exact q
    | _ => exact q
/-! ## repr -/
def rReprD (ds : List D) (Q : D → Prop) : Prop := d1 ds fun d => ∃ p k n, d.py = some p ∧ Sh k n p ∧ k ≤ 64 ∧ n ≤ sizeLine ∧ Q (.str p.shown)
theorem cd_repr (ng : NoG X.A) (hu : X.A.units + 66 < cLine) : CallD X (.builtin "repr") rReprD := by
  refine ⟨fun xs P Q i h => d1_mo (fun d ⟨p, k, n, a1, a2, a3, a4, h⟩ => ⟨p, k, n, a1, a2, a3, a4, i _ h⟩) h, fun pins s σ H xs us Q I r ⟨F, ds, l, h, q⟩ => ?_⟩
  obtain ⟨d, rfl, p, k, n, a1, a2, a3, a4, q⟩ := d1_of q
  obtain ⟨v, rfl, k1⟩ := dda1 h
  exact call_reprD ng hu pins s σ H _ us Q I r ⟨v, p, rfl, dd_py l d k1 a1, a2.showable, a2.noDict, Nat.le_trans a2.depth a3, Nat.le_trans a2.len a4, q _ F H (Ex.rfl l) (.str _)⟩
/-! ## isinstance(x, (list, tuple)) -/
def uIsi2 (t1 t2 : BT) (u : TD) : TD := fun ρ n Q => u ρ n fun d m => match isT t1 d, isT t2 d with
  | some a, some b => Q (.bl (a || b)) m
  | _, _ => False
theorem ue_isi2 (t1 t2 : BT) {p p1 p2 p3 : Pos} {kk : Nat} (h : UE X C a u) (hm : X.mg "isinstance" = none) (z1 : X.mg t1.id = none) (z2 : X.mg t2.id = none) (hg : Gl X "isinstance" := by rfl) (g1 : Gl X t1.id := by rfl) (g2 : Gl X t2.id := by rfl)
    (v1 : bootBuiltins t1.id = some (.type t1.nm) := by decide +kernel) (v2 : bootBuiltins t2.id = some (.type t2.nm) := by decide +kernel) (n1 : t1.id ≠ "__name__" := by decide +kernel) (n2 : t2.id ≠ "__name__" := by decide +kernel) (e1 : (t1.id == ("__debug__" : Str)) = false := by decide +kernel) (e2 : (t2.id == ("__debug__" : Str)) = false := by decide +kernel)
    (s1 : starEach [.Name t1.id p1, .Name t2.id p2] X.env = (false, eval (.Name t1.id p1) X.env) :: starEach [.Name t2.id p2] X.env := by rfl) (s2 : starEach [.Name t2.id p2] X.env = (false, eval (.Name t2.id p2) X.env) :: starEach [] X.env := by rfl)
    (h1 : starEach [a, .Tuple [.Name t1.id p1, .Name t2.id p2] kk p3] X.env = (false, eval a X.env) :: starEach [.Tuple [.Name t1.id p1, .Name t2.id p2] kk p3] X.env := by rfl) (h2 : starEach [.Tuple [.Name t1.id p1, .Name t2.id p2] kk p3] X.env = (false, eval (.Tuple [.Name t1.id p1, .Name t2.id p2] kk p3) X.env) :: starEach [] X.env := by rfl)
    (hpl : (backTo pos (starEach [.Tuple [.Name t1.id p1, .Name t2.id p2] kk p3] X.env)).any (·.1) = false := by rfl) :
    UE X C (.Call (.Name "isinstance" p) [a, .Tuple [.Name t1.id p1, .Name t2.id p2] kk p3] [] pos) (uIsi2 t1 t2 u) := by
  refine ⟨PEw (pe_callB call_isiT hg hm (by decide +kernel) (pa_cons h.run (pa_cons (pe_tup (pa_cons (pe_bltn (v := .ty t1.nm) g1 z1 v1 rfl n1 e1) (pa_cons (pe_bltn (v := .ty t2.nm) g2 z2 v2 rfl n2 e2) pa_nil s2) s1)) pa_nil h2) h1) (by decide) (by decide) h1 hpl) fun σ H Q ⟨F, ρ, n, rel, q⟩ => ⟨F, ρ, n, rel, h.mo _ _ _ _ (fun d m q v F1 H1 x1 m1 d1 => ?_) q⟩, fun ρ n P Q i w => h.mo _ _ _ _ (fun d m q => ?_) w⟩
  · refine ⟨by show 2 ≤ sizeLine; decide, fun tp np => ?_⟩
    cases k1 : isT t1 d with
    | none => rw [k1] at q; exact q.elim
    | some b1 =>
      cases k2 : isT t2 d with
      | none => rw [k1, k2] at q; exact q.elim
      | some b2 =>
        rw [k1, k2] at q
        have x2 : Ex p0 F1 H1 F1 (upd H1 tp (.tup [.ty t1.nm, .ty t2.nm])) := Ex.newO x1.le np
        refine ⟨v, tp, _, _, _, b1 || b2, rfl, upd_same, .cons (.ty _) (.cons (.ty _) .nil), dd_ty x2.le d1 k1, ?_, q _ F1 _ (x1.tr x2.up0) (C.stay m1 x2) (.bl _)⟩
        refine kitAny_cons (kit_ty (isT_kit k1)) (fun z => ?_) (fun z => by rw [z]; rfl)
        refine kitAny_cons (kit_ty (isT_kit k2)) (fun y => ?_) (fun y => by rw [y]; simp)
        rw [z, y]
        rfl
  · cases k1 : isT t1 d with
    | none => rw [k1] at q; exact q.elim
    | some b1 =>
      cases k2 : isT t2 d with
      | none => rw [k1, k2] at q; exact q.elim
      | some b2 => rw [k1, k2] at q; exact i _ _ q
end
end PU
set_option maxHeartbeats 2000000
namespace PU
open PySem PySem.Spec PyProof.Rows L2 HG LamX
/-! ## defs that ask repr: promised where no repr runs around -/
structure CalGP (P : Program) (w : World) (K : PySem.W.Frag) (mg : Str → Option Value) (base : Heap) (CX : CXT) (k : Nat) (x : Str) (ps : List Str) {ι : Type} (G : ι → Gh) (a : ι → SpD) : Prop where
  ca : CalleeP P w K mg base CX k x ps fun vs H Q E => ∃ i, spG K (G i) (a i) vs H Q E
  mo : ∀ i, MoSp (a i)
section
variable {P : Program} {w : World} {K : PySem.W.Frag} {mg : Str → Option Value} {base : Heap} {ι : Type} {G : ι → Gh} {a : ι → SpD}
theorem _root_.HG.Def.ukP {x : Str} {st : Stmt} {N ps : List Str} {k : Nat} (Df : Def K mg x st ps) (S : FnScope N ps (defScope st)) (ok : ∀ i, GhOk (G i)) (mo : ∀ i, MoSp (a i)) (len : ∀ i ds n Q E, a i ds n Q E → ds.length = ps.length)
    (body : ∀ (i : ι) (f : Addr) (cdv : Value) (A : Around) (outer : List Env) (s : Shared) (F H : Hp) (Ev : XK) (ds : List D) (n : Nat) (Q : D → Nat → Prop) (E : XD),
      NoG (A.deeper (envOfC x (defScope st) s.heap.objs.size f cdv)) → (cnOf (G i) F H).Ok → Room k (A.deeper (envOfC x (defScope st) s.heap.objs.size f cdv)) → a i ds n Q E →
      ∃ w', USs (cxOf CX0 P w K mg base N x (defScope st) f cdv A outer s H Ev).nox (cnOf (G i) F H) (defBody st) w' ∧ w' { nx := fun _ m => Q .non m, rt := Q } (startD N ds) n) :
    CalGP P w K mg base CX0 (k + 1) x ps G a := by
  refine ⟨Df.okP S (fun vs H Q E h => ?_) (fun f cdv A outer s H vs Q E ng hr h => ?_), mo⟩
  · obtain ⟨i, F, ds, n, l, fx, dd, m, h⟩ := h
    rw [dd.length]
    exact len i ds n _ _ h
  · obtain ⟨i, F, ds, n, l, fx, dd, m, h⟩ := h
    have hl : ds.length ≤ N.length := by
      rw [len i ds n _ _ h]
      have := congrArg List.length S.pre
      rw [List.length_take] at this
      omega
    obtain ⟨w', u, q⟩ := body i f cdv A outer s F H E ds n _ _ ng ⟨(ok i).sub, fx, fun b z => (G i).dm n H m b ((ok i).sub b z)⟩ hr h
    refine ⟨_, u.run, F, startD N ds, n, _, rel_start l dd m hl, ⟨?_, ?_, ?_, ?_⟩, q⟩
    · exact fun F' ρ n σ H' _ r q => q .non F' H' r.x r.m .non
    · exact fun v d F' n H' x m dd q => q v F' H' x m dd
    · exact fun F' ρ n σ H' _ r q => q.elim
    · exact fun F' ρ n σ H' _ r q => q.elim
end
section
variable {X : Cx} {C : Cn} {CX : CXT} {k n : Nat} {ps : List Str} {x : Str} {p pos : Pos} {e : Expr} {es : List Expr} {us : TDa} {t : TA} {sp : Sp}
theorem pe_cP (c : CalleeP X.prog X.w X.K X.mg X.base CX k x ps sp) (room : Room n X.A) (ng : NoG X.A) (lets : Passes CX X E0) (args : PA X (e :: es) t) (hk : k ≤ n := by decide) (glob : Gl X x := by rfl)
    (hdb : (x == ("__debug__" : Str)) = false := by decide) (he : starEach (e :: es) X.env = (false, eval e X.env) :: starEach es X.env := by rfl) (hpl : (backTo pos (starEach es X.env)).any (·.1) = false := by rfl) :
    PE X (.Call (.Name x p) (e :: es) [] pos) (fun σ H Q => t σ H fun vs H1 => sp vs H1 Q E0) := by
  obtain ⟨f, fd, F, m, kp, b, _⟩ := c.ex
  exact pe_callP F (room.mono hk) ng glob m kp b lets args hdb he hpl
theorem uc_pP {a : SpD} (c : CalGP X.prog X.w X.K X.mg X.base CX k x ps (fun _ : Unit => gh0) fun _ => a) (room : Room n X.A) (ng : NoG X.A) (lets : Passes CX X E0) (args : UA X C (e :: es) us) (hk : k ≤ n := by decide) (glob : Gl X x := by rfl)
    (hdb : (x == ("__debug__" : Str)) = false := by decide) (he : starEach (e :: es) X.env = (false, eval e X.env) :: starEach es X.env := by rfl) (hpl : (backTo pos (starEach es X.env)).any (·.1) = false := by rfl) :
    UE X C (.Call (.Name x p) (e :: es) [] pos) (uCp a us) :=
  ⟨PEw (pe_cP c.ca room ng lets args.run hk glob hdb he hpl) fun σ H Q ⟨F, ρ, n, rel, q⟩ => ⟨F, ρ, n, rel, args.mo _ _ _ _ (fun ds m q vs F1 H1 x1 m1 d1 =>
    ⟨(), F1, ds, 0, x1.le, (fun _ z => nomatch z), d1, trivial, c.mo () _ _ _ _ _ _ (fun d _ q v F2 H2 x2 _ dd => q v F2 H2 (x1.tr x2.up0) (C.stay m1 x2) dd) (fun _ _ _ _ z => z.elim) q⟩) q⟩, mo_Cp (c.mo ()) args.mo⟩
/-! ## calls by names: f(q=.., p=..) of f(p, q) -/
def rvD : TDa → TDa := fun us ρ n Q => us ρ n fun ds m => Q ds.reverse m
structure UK (X : Cx) (C : Cn) (ks : List Keyword) (u : TDa) : Prop where
  run : PK X ks (tA X.K C u)
  mo : Mo u
theorem PKw {X : Cx} {e : List Keyword} {t t' : TA} (h : PK X e t) (w : ∀ σ H Q, t' σ H Q → t σ H Q) : PK X e t' := ⟨fun pos pins s σ H Q I q => h.run pos pins s σ H Q I (w _ _ _ q)⟩
theorem uk_nil : UK X C [] uNil := ⟨PKw pk_nil fun σ H Q ⟨F, ρ, n, rel, h⟩ => h [] F H (Ex.rfl rel.le) rel.m .nil, fun _ _ _ _ h u => h _ _ u⟩
theorem uk_cons {u : TD} {ur : TDa} {nm : Option Str} {kp : Pos} {kws : List Keyword} (ha : UE X C e u) (hr : UK X C kws ur) : UK X C (⟨nm, e, kp⟩ :: kws) (uCons u ur) :=
  ⟨PKw (pk_cons ha.run hr.run) fun σ H Q ⟨F, ρ, n, rel, h⟩ => ⟨F, ρ, n, rel, ha.mo _ _ _ _ (fun d m q v F1 H1 x1 m1 d1 =>
    ⟨F1, ρ, m, rel.stepG x1 m1, hr.mo _ _ _ _ (fun ds k q vs F2 H2 x2 m2 d2 => q (v :: vs) F2 H2 (x1.tr x2) m2 (.cons (d1.le x2.up) d2)) q⟩) h⟩, mo_Cons ha.mo hr.mo⟩
theorem dda_rev {K : PySem.W.Frag} {F : Hp} : ∀ {vs : List V} {ds : List D}, DdA K F vs ds → DdA K F vs.reverse ds.reverse
  | _, _, .nil => .nil
  | _, _, .cons a b => by
    rw [List.reverse_cons, List.reverse_cons]
    exact (dda_rev b).append (.cons a .nil)
theorem uc_k {a : SpD} {st : Stmt} {ks : List Str} {kws : List Keyword} {ur : TDa} (c : CalG X.prog X.w X.K X.mg X.base CX k x ps (fun _ : Unit => gh0) fun _ => a) (D : Def X.K X.mg x st ps) (B : KwB x st ps ks) (room : Room n X.A) (lets : Passes CX X E0) (named : UK X C kws ur) (hk : k ≤ n := by decide) (glob : Gl X x := by rfl)
    (hall : (backToKw pos (keywordEach kws X.env)).all (·.1.isSome) = true := by rfl) (hks : (backToKw pos (keywordEach kws X.env)).filterMap (·.1) = ks := by rfl) (hdb : (x == ("__debug__" : Str)) = false := by decide)
    (hpl : ((backTo pos (starEach [] X.env)).any (·.1) || (backToKw pos (keywordEach kws X.env)).any (·.1.isNone)) = false := by rfl) :
    UE X C (.Call (.Name x p) [] kws pos) (uCp a (rvD ur)) :=
  ⟨PEw (pe_kwE c.ca D B room lets named.run hk glob hall hks hdb hpl) fun σ H Q ⟨F, ρ, n, rel, q⟩ => ⟨F, ρ, n, rel, named.mo _ _ _ _ (fun ds m q vs F1 H1 x1 m1 d1 =>
    ⟨(), F1, ds.reverse, 0, x1.le, (fun _ z => nomatch z), dda_rev d1, trivial, c.mo () _ _ _ _ _ _ (fun d _ q v F2 H2 x2 _ dd => q v F2 H2 (x1.tr x2.up0) (C.stay m1 x2) dd) (fun _ _ _ _ z => z.elim) q⟩) q⟩,
    mo_Cp (c.mo ()) fun ρ n P Q i w => named.mo _ _ _ _ (fun ds m => i _ m) w⟩
theorem uc_kX {a : SpD} {E : XD} {Ev : XK} {st : Stmt} {ks : List Str} {kws : List Keyword} {ur : TDa} (xo : XOk X.K C E Ev) (c : CalG X.prog X.w X.K X.mg X.base CX k x ps (fun _ : Unit => gh0) fun _ => a) (D : Def X.K X.mg x st ps) (B : KwB x st ps ks) (room : Room n X.A) (lets : Passes CX X Ev) (named : UK X C kws ur) (hk : k ≤ n := by decide) (glob : Gl X x := by rfl)
    (hall : (backToKw pos (keywordEach kws X.env)).all (·.1.isSome) = true := by rfl) (hks : (backToKw pos (keywordEach kws X.env)).filterMap (·.1) = ks := by rfl) (hdb : (x == ("__debug__" : Str)) = false := by decide)
    (hpl : ((backTo pos (starEach [] X.env)).any (·.1) || (backToKw pos (keywordEach kws X.env)).any (·.1.isNone)) = false := by rfl) :
    UE X C (.Call (.Name x p) [] kws pos) (uCpX a E (rvD ur)) :=
  ⟨PEw (pe_kwE c.ca D B room lets named.run hk glob hall hks hdb hpl) fun σ H Q ⟨F, ρ, n, rel, q⟩ => ⟨F, ρ, n, rel, named.mo _ _ _ _ (fun ds m q vs F1 H1 x1 m1 d1 =>
    ⟨(), F1, ds.reverse, 0, x1.le, (fun _ z => nomatch z), dda_rev d1, trivial, c.mo () _ _ _ _ _ _ (fun d _ q v F2 H2 x2 _ dd => q v F2 H2 (x1.tr x2.up0) (C.stay m1 x2) dd)
      (fun c ns xs _ q dx F2 H2 x2 _ ea => xo c ns xs m dx F2 H2 q ((rel.x.tr x1).tr x2.up0) (C.stay m1 x2) ea) q⟩) q⟩,
    fun ρ n P Q i w => named.mo _ _ _ _ (fun ds k => c.mo () _ _ _ _ _ _ (fun d _ => i d k) fun _ _ _ _ z => z) w⟩
end
end PU
set_option maxHeartbeats 2000000
namespace PU
open PySem PySem.Spec PyProof.Rows L2 HG LamX
/-! ## steps of readings -/
theorem ix_t {xs : List D} {k : Nat} {d : D} {Q : D → Prop} (h : xs[k]? = some d) (q : Q d) : rIx (.tup xs) (.int k) Q := by
  have e : atI xs (k : Int) = some d := atI_nat h
  unfold rIx
  simp only [e]
  exact q
theorem ix_t0 {x : D} {r : List D} {Q : D → Prop} (q : Q x) : rIx (.tup (x :: r)) (.int 0) Q := ix_t (k := 0) rfl q
theorem ix_t1 {w x : D} {r : List D} {Q : D → Prop} (q : Q x) : rIx (.tup (w :: x :: r)) (.int 1) Q := ix_t (k := 1) rfl q
theorem ix_t2 {v w x : D} {r : List D} {Q : D → Prop} (q : Q x) : rIx (.tup (v :: w :: x :: r)) (.int 2) Q := ix_t (k := 2) rfl q
theorem ix_l {xs : List D} {k : Nat} {d : D} {Q : D → Prop} (h : xs[k]? = some d) (q : Q d) : rIx (.lst xs) (.int k) Q := by
  have e : atI xs (k : Int) = some d := atI_nat h
  unfold rIx
  simp only [e]
  exact q
theorem rg_get {lo : Int} {n i : Nat} {x : D} (h : (rgD lo n)[i]? = some x) : i < n ∧ x = .int (lo + i) := by
  unfold rgD at h
  rw [List.getElem?_map] at h
  by_cases l : i < n
  · simp [l] at h
    exact ⟨l, h.symm⟩
  · simp [l] at h
theorem rg_len {lo : Int} {n : Nat} : (rgD lo n).length = n := by unfold rgD; simp
/-- a text of one sign within another -/
theorem opd_inS {X : Cx} : OpD X (compareOp .In) (fun x y Q => ∃ c z, x = .str ⟨#[c]⟩ ∧ y = .str z ∧ Q (.bl (decide (c ∈ z.cps.toList)))) := by
  refine ⟨fun x y P Q i ⟨c, z, a, b, h⟩ => ⟨c, z, a, b, i _ h⟩, fun pins s σ H x y v u Q I rx ry ⟨F, dx, dy, l, h1, h2, c, z, e1, e2, q⟩ => ?_⟩
  subst e1 e2
  cases h1
  cases h2
  exact op_in_sign pins s σ H _ _ v u Q I rx ry ⟨c, z, rfl, rfl, q _ F H (Ex.rfl l) (.bl _)⟩
theorem opd_notInS {X : Cx} : OpD X (compareOp .NotIn) (fun x y Q => ∃ c z, x = .str ⟨#[c]⟩ ∧ y = .str z ∧ Q (.bl (!decide (c ∈ z.cps.toList)))) := by
  refine ⟨fun x y P Q i ⟨c, z, a, b, h⟩ => ⟨c, z, a, b, i _ h⟩, fun pins s σ H x y v u Q I rx ry ⟨F, dx, dy, l, h1, h2, c, z, e1, e2, q⟩ => ?_⟩
  subst e1 e2
  cases h1
  cases h2
  exact op_notIn_sign pins s σ H _ _ v u Q I rx ry ⟨c, z, rfl, rfl, q _ F H (Ex.rfl l) (.bl _)⟩
theorem sgs_get {z : Str} {i : Nat} {x : D} (h : (sgs z)[i]? = some x) : ∃ c, z.cps.toList[i]? = some c ∧ x = .str ⟨#[c]⟩ := by
  unfold sgs at h
  rw [List.getElem?_map] at h
  cases e : z.cps.toList[i]? with
  | none => rw [e] at h; cases h
  | some c => rw [e] at h; cases h; exact ⟨c, rfl, rfl⟩
theorem sgs_len (z : Str) : (sgs z).length = z.length := by unfold sgs; simp [PySem.Str.length]
/-! ## data of any kind -/
mutual
/-- no object, no function; texts below 1000 signs -/
def fine : D → Bool
  | .non => true
  | .bl _ => true
  | .int _ => true
  | .str z => decide (z.length < 1000)
  | .lst xs => decide (xs.length < 1000) && fineA xs
  | .tup xs => decide (xs.length < 1000) && fineA xs
  | .dk _ xs => fineA xs
  | _ => false
def fineA : List D → Bool
  | [] => true
  | d :: r => fine d && fineA r
end
theorem fineA_all : ∀ {xs : List D}, fineA xs = true → ∀ d ∈ xs, fine d = true
  | [], _, d, m => nomatch m
  | x :: r, h, d, m => by
    simp only [fineA, Bool.and_eq_true] at h
    rcases List.mem_cons.mp m with rfl | m
    · exact h.1
    · exact fineA_all h.2 d m
theorem fineA_of : ∀ {xs : List D}, (∀ d ∈ xs, fine d = true) → fineA xs = true
  | [], _ => rfl
  | x :: r, h => by
    simp only [fineA, Bool.and_eq_true]
    exact ⟨h x List.mem_cons_self, fineA_of fun d m => h d (List.mem_cons_of_mem _ m)⟩
def isNum : D → Bool
  | .int _ => true
  | _ => false
def numIn (lo hi : Int) : D → Bool
  | .int i => decide (lo ≤ i) && decide (i ≤ hi)
  | _ => false
/-- a test that goes one of two ways -/
theorem ite_b {b : Bool} {A B : Prop} (h1 : b = true → A) (h2 : b = false → B) : if b = true then A else B := by
  cases b
  · exact h2 rfl
  · exact h1 rfl
/-- all items up to here, one more -/
theorem all_take {α : Type} {p : α → Bool} {xs : List α} {i : Nat} {x : α} (h : xs[i]? = some x) (a : (xs.take i).all p = true) (b : p x = true) : (xs.take (i + 1)).all p = true := by
  have l := (List.getElem?_eq_some_iff.mp h).1
  rw [List.take_succ, h, List.all_append, a]
  simp [b]
theorem all_not {α : Type} {p : α → Bool} {xs : List α} {i : Nat} {x : α} (h : xs[i]? = some x) (b : p x = false) : xs.all p = false := by
  rw [List.all_eq_false]
  exact ⟨x, List.mem_of_getElem? h, by rw [b]; exact Bool.false_ne_true⟩
theorem fine_tup {xs : List D} (h : fine (.tup xs) = true) : xs.length < 1000 ∧ ∀ d ∈ xs, fine d = true := by
  simp only [fine, Bool.and_eq_true, decide_eq_true_eq] at h
  exact ⟨h.1, fineA_all h.2⟩
theorem fine_lst {xs : List D} (h : fine (.lst xs) = true) : xs.length < 1000 ∧ ∀ d ∈ xs, fine d = true := by
  simp only [fine, Bool.and_eq_true, decide_eq_true_eq] at h
  exact ⟨h.1, fineA_all h.2⟩
theorem fine_tup' {xs : List D} (l : xs.length < 1000) (h : ∀ d ∈ xs, fine d = true) : fine (.tup xs) = true := by
  simp only [fine, Bool.and_eq_true, decide_eq_true_eq]
  exact ⟨l, fineA_of h⟩
theorem fine_lst' {xs : List D} (l : xs.length < 1000) (h : ∀ d ∈ xs, fine d = true) : fine (.lst xs) = true := by
  simp only [fine, Bool.and_eq_true, decide_eq_true_eq]
  exact ⟨l, fineA_of h⟩
/-- enumerate(x), x a name, a list or a tuple -/
def uEnumV (i : Nat) : TDi := fun ρ n Q => match gt ρ i with
  | .d (.lst xs) => Q (enumD xs) n
  | .d (.tup xs) => Q (enumD xs) n
  | _ => False
theorem ui_enumV {X : Cx} {C : Cn} {i : Nat} {x : Str} {px p pos tpos : Pos} {elts : List Expr} {kk : Nat} (hm : X.mg "enumerate" = none) (hg : Gl X "enumerate" := by rfl) (hN : X.N[i]? = some x := by rfl) (hv : Vis X.env.scope x := by first | exact .inl rfl | exact .inr (.inl rfl) | exact .inr (.inr rfl)) (hd : (x == ("__debug__" : Str)) = false := by decide) (hcd : (x == ("__classdict__" : Str)) = false := by decide)
    (hs : starEach [.Name x px] X.env = [(false, eval (.Name x px) X.env)] := by rfl) : UI X C (.Tuple elts kk tpos) (.Call (.Name "enumerate" p) [.Name x px] [] pos) (uEnumV i) := by
  refine ⟨PIw (pi_enumX hg hm (pa_cons (pe_var (i := i) hN hv hd hcd) pa_nil hs) hs) fun σ H R ⟨F, ρ, n, rel, q⟩ => ?_, fun ρ n P Q i w => ?_⟩
  · unfold uEnumV at q
    have sl := rel.sl i
    cases e : gt ρ i with
    | d y =>
      rw [e] at q sl
      obtain ⟨v, e2, dd⟩ := sl
      cases dd with
      | lst hq ha => exact .inl ⟨_, getD_some e2, _, _, rfl, SqL.le rel.le hq, q _ F H (Ex.rfl rel.le) rel.m (enum_walk walk_enum (fun H' l => SqL.le l hq) ha)⟩
      | tup hq ha => exact .inr ⟨_, getD_some e2, _, _, rfl, SqT.le rel.le hq, q _ F H (Ex.rfl rel.le) rel.m (enum_walk HN.walk_ent (fun H' l => SqT.le l hq) ha)⟩
      | _ => exact q.elim
    | _ => rw [e] at q; exact q.elim
  · unfold uEnumV at w ⊢
    split <;> rename_i e <;> simp only [e] at w <;> first | exact i _ _ w | exact w
theorem en_get {xs : List D} {i : Nat} {x : D} (h : (enumD xs)[i]? = some x) : ∃ d, xs[i]? = some d ∧ x = .tup [.int (i : Nat), d] := by
  rw [enumD_get] at h
  cases e : xs[i]? with
  | none => rw [e] at h; cases h
  | some d => rw [e] at h; cases h; exact ⟨d, rfl, rfl⟩
theorem en_len (xs : List D) : (enumD xs).length = xs.length := enumD_length xs
/-- slices -/
theorem cut_to' {xs : List D} {k : Nat} (h : k ≤ xs.length) : cutD xs none (some (k : Int)) = xs.take k := by
  unfold cutD
  rw [HT.sIx_nat]
  show (xs.drop 0).take (min k xs.length - 0) = _
  rw [Nat.min_eq_left h]
  rfl
theorem cut_from' {xs : List D} {k : Nat} (h : k ≤ xs.length) : cutD xs (some (k : Int)) none = xs.drop k := by
  unfold cutD
  rw [HT.sIx_nat]
  show (xs.drop (min k xs.length)).take (xs.length - min k xs.length) = _
  rw [Nat.min_eq_left h, List.take_of_length_le (by rw [List.length_drop]; exact Nat.le_refl _)]
theorem cut_mid' {xs : List D} {a b : Nat} (h1 : a ≤ b) (h2 : b ≤ xs.length) : cutD xs (some (a : Int)) (some (b : Int)) = (xs.drop a).take (b - a) := by
  unfold cutD
  rw [HT.sIx_nat, HT.sIx_nat, Nat.min_eq_left (Nat.le_trans h1 h2), Nat.min_eq_left h2]
end PU
set_option maxHeartbeats 2000000
namespace PU
open PySem PySem.Spec PyProof.Rows L2 HG LamX
/-- the things of a row: a list, a tuple, a text -/
def rowS (d : D) (xs : List D) : Prop := d = .lst xs ∨ d = .tup xs ∨ ∃ z : Str, d = .str z ∧ z.length < 1000 ∧ xs = sgs z
theorem at_of {α : Type} {xs : List α} {r : Int} (h0 : 0 ≤ r) (h1 : r < xs.length) : ∃ v, v ∈ xs ∧ atI xs r = some v := by
  have h2 : r.toNat < xs.length := by omega
  refine ⟨xs[r.toNat], List.getElem_mem h2, ?_⟩
  have q := atI_nat (xs := xs) (j := r.toNat) (List.getElem?_eq_getElem h2)
  rw [Int.toNat_of_nonneg h0] at q
  exact q
theorem ix_any {d : D} {xs : List D} {r : Int} {Q : D → Prop} (h : rowS d xs) (r0 : 0 ≤ r) (r1 : r < xs.length) (q : ∀ x, x ∈ xs → Q x) : rIx d (.int r) Q := by
  rcases h with rfl | rfl | ⟨z, rfl, hz, rfl⟩
  · obtain ⟨v, m, e⟩ := at_of r0 r1
    unfold rIx
    simp only [e]
    exact q v m
  · obtain ⟨v, m, e⟩ := at_of r0 r1
    unfold rIx
    simp only [e]
    exact q v m
  · have l : (z.cps.toList).length = z.length := by simp [PySem.Str.length]
    rw [sgs_len] at r1
    obtain ⟨c, m, e⟩ := at_of (xs := z.cps.toList) r0 (by rw [l]; exact r1)
    unfold rIx
    simp only [e]
    refine ⟨Nat.le_of_lt (Nat.lt_of_lt_of_le hz (by decide)), q _ ?_⟩
    unfold sgs
    exact List.mem_map.mpr ⟨c, m, rfl⟩
/-- one statement, then another, with what holds between -/
theorem seq_mid {w w' : TDs} {E : EndD} {ρ : List S} {n : Nat} (P : List S → Nat → Prop) (h : ∀ NX : List S → Nat → Prop, (∀ ρ m, P ρ m → NX ρ m) → w { E with nx := NX } ρ n) (q : ∀ ρ m, P ρ m → w' E ρ m) : uSeq w w' E ρ n := h _ q
/-! ### x, xs = a value, a new list; the names may be read by what stands within -/
def uAsgO (i j : Nat) (u : TD) (ul : TDl) : TDs := fun E ρ n => u ρ n fun d m => ul ρ m fun ds m2 => ∀ a, E.nx (st (st ρ i (.d d)) j (.o a ds)) m2
theorem us_asgO {X : Cx} {C : Cn} {i j : Nat} {x y : Str} {a b : Expr} {u : TD} {ul : TDl} {px py pt pos : Pos} {kt k2 pt2} (hc : C.Ok) (ha : UE X C a u) (hb : UL X C b ul) (hN : X.N.Nodup) (hi : X.N[i]? = some x := by rfl) (hj : X.N[j]? = some y := by rfl)
    (hx : Loc X.env.scope x := by first | exact .inl rfl | exact .inr rfl) (hy : Loc X.env.scope y := by first | exact .inl rfl | exact .inr rfl)
    (hf : X.fn x = true ∨ X.env.scope.names.lookup x = some .local := by first | exact .inl rfl | exact .inr rfl) (hg : X.fn y = true ∨ X.env.scope.names.lookup y = some .local := by first | exact .inl rfl | exact .inr rfl)
    (hcalm : X.calm = true := by rfl) (s0 : starEach [a, b] X.env = (false, eval a X.env) :: starEach [b] X.env := by rfl) (s1 : starEach [b] X.env = (false, eval b X.env) :: starEach [] X.env := by rfl)
    (hs : swapsWithSole [.Tuple [.Name x px, .Name y py] kt pt] (.Tuple [a, b] k2 pt2) pos.line X.env = pure false := by rfl)
    (hw : swappedStores [.Tuple [.Name x px, .Name y py] kt pt] (.Tuple [a, b] k2 pt2) X.env = pure none := by rfl)
    (h1 : (assignEach [.Tuple [.Name x px, .Name y py] kt pt] X.env).map (·.2) = [assign (.Tuple [.Name x px, .Name y py] kt pt) X.env] := by rfl)
    (g1 : (assignEach [.Name x px, .Name y py] X.env).map (·.2) = assign (.Name x px) X.env :: (assignEach [.Name y py] X.env).map (·.2) := by rfl)
    (g2 : (assignEach [.Name y py] X.env).map (·.2) = assign (.Name y py) X.env :: (assignEach [] X.env).map (·.2) := by rfl)
    (hn : (assignEach [.Name x px, .Name y py] X.env).length = 2 := by rfl) (hst : (assignEach [.Name x px, .Name y py] X.env).findIdx? (·.1) = none := by rfl) :
    US X C (.Assign [.Tuple [.Name x px, .Name y py] kt pt] (.Tuple [a, b] k2 pt2) pos) (uAsgO i j u ul) := by
  refine ⟨PSw (ps_asg (pe_tup (pa_cons ha.run (pa_cons hb.run pa_nil s1) s0)) (pg_tup hcalm (pgs_cons (pg_name hN hi hx hf) (pgs_cons (pg_name hN hj hy hg) pgs_nil g2) g1) hn hst) hs hw h1) fun D σ H ⟨F, ρ, n, E, rel, ok, q⟩ => ?_⟩
  refine ⟨F, ρ, n, rel, ha.mo _ _ _ _ (fun d m q v F1 H1 x1 m1 d1 => ⟨F1, ρ, m, rel.stepG x1 m1, hb.mo _ _ _ _ (fun ds m2 q l vs F2 H2 x2 m3 o1 o2 o3 d2 => ⟨by show 2 ≤ sizeLine; decide, fun p np => ?_⟩) q⟩) q⟩
  have x3 : Ex p0 F2 H2 F2 (upd H2 p (.tup [v, .ref l])) := Ex.newO x2.le np
  have rA := rel.stepG x1 m1
  have rB := (rA.stepG x2 m3).step x3
  have rC := rB.setD (i := i) (d1.le x2.up)
  have rD := rA.setD (i := i) d1
  have lp : l ≠ p := fun z => by
    rw [z, np] at o3
    cases o3
  refine ⟨p, _, rfl, .inl (.inl upd_same), rfl, v, _, rfl, .ref l, _, rfl, rfl, ?_⟩
  exact ok.nx F2 _ m2 _ _ (x1.up.tr x2.up) (rC.setO hc.sub o1 rA.x.keep ⟨m, rA.m⟩ (fun b z => rD.ownAt z) o2 (by rw [upd_ne lp]; exact o3) d2) (q l)
/-! ## letters and words, kinds of data -/
def signs : Str := "ABCDEFGHIJKLMNOPQRSTUVWXYZabcdefghijklmnopqrstuvwxyz0123456789."
def letS (z : Str) : Bool := decide (1 ≤ z.length) && decide (z.length ≤ 12) && z.cps.toList.all fun c => decide (c ∈ signs.cps.toList)
def isLet : D → Bool
  | .str z => letS z
  | _ => false
def isWord : D → Bool
  | .tup xs => xs.all isLet
  | _ => false
def isRow : D → Bool
  | .lst _ => true
  | .tup _ => true
  | _ => false
def tupN (n : Int) : D → Bool
  | .tup xs => decide ((xs.length : Int) = n)
  | _ => false
def isPair : D → Bool
  | .tup [x, y] => isNum x && isNum y
  | _ => false
end PU
set_option maxHeartbeats 2000000
namespace HG
open PySem PySem.Spec PyProof.Rows L2
/-- one statement behind another, with what holds between -/
theorem seq_join {t1 t2 : TS} {D : Ends} {σ : L2.St} {H : Hp} (P : L2.St → Hp → Prop)
    (h : ∀ NX : L2.St → Hp → Prop, (∀ σ1 H1, P σ1 H1 → NX σ1 H1) → t1 { D with nx := NX } σ H)
    (q : ∀ σ1 H1, P σ1 H1 → t2 D σ1 H1) : tSeq t1 t2 D σ H := h (t2 D) q
theorem dpAll_ints {K : PySem.W.Frag} {H : Hp} : ∀ ns : List Int, DpAll K H (ns.map V.int) (ns.map PyData.int)
  | [] => .nil
  | n :: r => .cons (.int n) (dpAll_ints r)
theorem lay_ints : ∀ ns : List Int, PyData.canLayAll0 (ns.map PyData.int) = true
  | [] => by simp [PyData.canLayAll0]
  | n :: r => by simp [PyData.canLayAll0, PyData.canLay0, lay_ints r]
theorem depth_ints : ∀ ns : List Int, PyData.depthAll (ns.map PyData.int) ≤ 1
  | [] => by simp [PyData.depthAll]
  | n :: r => by
    have := depth_ints r
    simp only [List.map_cons, PyData.depthAll, PyData.depth]
    omega
theorem shaped_ints (ns : List Int) : SeqAt.shaped (.list (ns.map PyData.int)) = true := by
  have h := depth_ints ns
  show (PyData.canLay0 _ && decide (PyData.depth _ ≤ 64)) = true
  rw [Bool.and_eq_true]
  refine ⟨by simp only [PyData.canLay0]; exact lay_ints ns, decide_eq_true ?_⟩
  simp only [PyData.depth]
  omega
theorem eqv_ints_nil (ns : List Int) : PyData.eqv (.list (ns.map PyData.int)) (.list []) = ns.isEmpty := by
  cases ns <;> simp [PyData.eqv, PyData.eqvAll]
/-! ## the drawing -/
def drawK (g c : Addr) (left turn : Int) : List (Key × V) :=
  [(.inr "large", .ref g), (.inr "cells", .ref c), (.inr "rest", .int left), (.inr "turn", .int turn)]
theorem drawK_great {g c : Addr} {l t : Int} : valV (drawK g c l t) (.inr "large") = some (.ref g) := rfl
theorem drawK_cells {g c : Addr} {l t : Int} : valV (drawK g c l t) (.inr "cells") = some (.ref c) := rfl
theorem drawK_left {g c : Addr} {l t : Int} : valV (drawK g c l t) (.inr "rest") = some (.int l) := rfl
theorem drawK_turn {g c : Addr} {l t : Int} : valV (drawK g c l t) (.inr "turn") = some (.int t) := rfl
theorem drawK_put_left {g c : Addr} {l t m : Int} : putK (drawK g c l t) (.inr "rest") (.int m) = drawK g c m t := rfl
theorem drawK_put_turn {g c : Addr} {l t m : Int} : putK (drawK g c l t) (.inr "turn") (.int m) = drawK g c l m := rfl
/-- at p a drawing that has turned at most n times; its lists stand at g and c -/
structure Draw (H : Hp) (p g c : Addr) (n : Int) : Prop where
  ne : g ≠ c
  ex : ∃ (gs cs : List Int) (left turn : Int), H p = some (.dK (drawK g c left turn)) ∧ H g = some (.lst (gs.map V.int)) ∧
    H c = some (.lst (cs.map V.int)) ∧ 0 ≤ turn ∧ turn ≤ n
theorem dget_of {H : Hp} {a : Addr} {kvs : List (Key × V)} {k : Key} {v : V} (e : H a = some (.dK kvs)) (h : valV kvs k = some v) :
    DGet H a (kV k) (some v) := by
  rw [← h]
  exact DGet.k e
theorem dput_of {H : Hp} {a : Addr} {kvs kvs' : List (Key × V)} {k : Key} {v : V} (e : H a = some (.dK kvs)) (h : putK kvs k v = kvs')
    (hl : kvs.length < 1000) : DPut H a (kV k) v (upd H a (.dK kvs')) := by
  rw [← h]
  exact DPut.k e (Nat.lt_trans hl (by decide))
theorem atI_of {α : Type} {xs : List α} {r : Int} (h0 : 0 ≤ r) (h1 : r < xs.length) : ∃ v, xs[r.toNat]? = some v ∧ atI xs r = some v := by
  have h2 : r.toNat < xs.length := by omega
  refine ⟨xs[r.toNat], List.getElem?_eq_getElem h2, ?_⟩
  have q := atI_nat (xs := xs) (j := r.toNat) (List.getElem?_eq_getElem h2)
  rw [Int.toNat_of_nonneg h0] at q
  exact q
def sp_mixed : Sp := fun vs H Q _ => ∃ p g c n, vs = [.ref p] ∧ Draw H p g c n ∧ n < 1000000000 ∧
  ∀ r H', Keep [p] H H' → Draw H' p g c (n + 1) → Q (.int r) H'
def sp_take : Sp := fun vs H Q _ => ∃ p g c n m, vs = [.ref p, .int m] ∧ Draw H p g c n ∧ n < 1000000000 ∧ 0 < m ∧ m < 2 ^ 64 ∧
  ∀ r H', 0 ≤ r → r < m → Keep [p, g] H H' → Draw H' p g c (n + 1) → Q (.int r) H'
def sp_pick (K : PySem.W.Frag) : Sp := fun vs H Q _ => ∃ p g c n l xs, vs = [.ref p, .ref l] ∧ Draw H p g c n ∧ n < 1000000000 ∧
  SqL K H l xs ∧ l ∉ [p, g] ∧ 0 < xs.length ∧ xs.length < 1000 ∧
  ∀ (i : Nat) v H', xs[i]? = some v → Keep [p, g] H H' → Draw H' p g c (n + 1) → Q v H'
def sp_begun (K : PySem.W.Frag) : Sp := fun vs H Q _ => ∃ (l : Addr) (ns : List Int), vs = [.ref l] ∧ SqL K H l (ns.map V.int) ∧ ns.length ≤ 63 ∧
  ∀ p g c H', H p = none → H g = none → H c = none → Keep [] H H' → Draw H' p g c 0 → Q (.ref p) H'
end HG

namespace PU
open PySem PySem.Spec PyProof.Rows L2 HG LamX
theorem draw_not {H : Hp} {p g c : Addr} {n : Int} (d : Draw H p g c n) : ∀ a ∈ [p, g, c], ∃ o, H a = some o ∧ NTb o := by
  obtain ⟨_, gs, cs, left, turn, e1, e2, e3, _⟩ := d
  intro a m
  simp only [List.mem_cons, List.not_mem_nil, or_false] at m
  rcases m with rfl | rfl | rfl
  · exact ⟨_, e1, fun _ z => nomatch z⟩
  · exact ⟨_, e2, fun _ z => nomatch z⟩
  · exact ⟨_, e3, fun _ z => nomatch z⟩
theorem draw_stay {H H' : Hp} {p g c : Addr} {n : Int} (d : Draw H p g c n) (k : ∀ a ∈ [p, g, c], ∀ o, H a = some o → H' a = some o) : Draw H' p g c n := by
  obtain ⟨ne, gs, cs, left, turn, e1, e2, e3, q⟩ := d
  exact ⟨ne, gs, cs, left, turn, k p (by simp) _ e1, k g (by simp) _ e2, k c (by simp) _ e3, q⟩
/-- the ghost of a drawing; more: what else is to be kept (tables), by things that are no lists and no dicts -/
def gDraw (i : Addr × Addr × Addr) : Gh where
  pol := ⟨[i.1, i.2.1], false⟩
  dx := [i.1, i.2.1, i.2.2]
  M := fun n H => Draw H i.1 i.2.1 i.2.2 n
  kp := fun n H H' h d => draw_stay d fun a m o e => h a o e (.inl m)
  dm := fun n H d a m => draw_not d a m
theorem gDraw_ok (i : Addr × Addr × Addr) : GhOk (gDraw i) := ⟨fun b h => by
  simp only [gDraw, List.mem_cons, List.not_mem_nil, or_false] at h ⊢
  rcases h with h | h
  · exact .inl h
  · exact .inr (.inl h)⟩
/-- what a def that draws leaves -/
theorem ex_draw {F H H' : Hp} {i : Addr × Addr × Addr} (l : Le F H) (fx : ∀ b ∈ (gDraw i).pol.ex, Fr0 F b) (k : Keep [i.1, i.2.1] H H') : Ex (gDraw i).pol F H F H' := by
  refine ⟨Le.rfl, fun a o e t => k.toKeepW.all a o (l a o e t) (fun m => ?_) t, fun _ _ _ _ => rfl, k.toKeepW, fun _ a ps e => k.tbl a ps e⟩
  obtain ⟨ps, z⟩ := fx a m o e
  exact t ps z
section
variable {P : Program} {w : World} {K : PySem.W.Frag} {mg : Str → Option Value} {base : Heap}
def aTake (i : Addr × Addr × Addr) : SpD := fun ds n Q _ => ∃ m : Int, ds = [.ref i.1, .int m] ∧ n < 1000000000 ∧ 0 < m ∧ m < 2 ^ 64 ∧ ∀ r : Int, 0 ≤ r → r < m → Q (.int r) (n + 1)
theorem mo_take (i : Addr × Addr × Addr) : MoSp (aTake i) := fun ds n Q Q' E E' j _ ⟨m, h1, h2, h3, h4, h⟩ => ⟨m, h1, h2, h3, h4, fun r a b => j _ _ (h r a b)⟩
theorem cal_take {ps : List Str} (c : Callee P w K mg base CX0 2 "_law_take" ps HG.sp_take) : CalG P w K mg base CX0 2 "_law_take" ps gDraw aTake := by
  refine ⟨Callee.weak c fun vs H Q E ⟨i, F, ds, n, l, fx, dd, m, k, e, h1, h2, h3, q⟩ => ?_, mo_take⟩
  subst e
  obtain ⟨v, w', rfl, d1, d2⟩ := dda2 dd
  obtain rfl : v = V.ref i.1 := by cases d1; rfl
  obtain rfl : w' = V.int k := by cases d2; rfl
  refine ⟨i.1, i.2.1, i.2.2, n, k, rfl, m, by omega, h2, h3, fun r H' r0 r1 kp d => q r r0 r1 _ F H' (ex_draw l fx kp) ?_ (.int r)⟩
  show Draw H' i.1 i.2.1 i.2.2 ((n + 1 : Nat) : Int)
  rw [Int.natCast_add]
  exact d
end
/-- the ghost of a callee within one's own -/
structure Emb (G : Gh) (C : Gh) : Prop where
  dn : ∀ n H, C.M n H → G.M n H
  up : ∀ n n' F H F' H', C.M n H → Ex G.pol F H F' H' → G.M n' H' → C.M n' H'
  pl : ∀ F H F' H', Ex G.pol F H F' H' → Ex C.pol F H F' H'
  sub : ∀ b ∈ G.pol.ex, b ∈ C.pol.ex
theorem Emb.rfl {G : Gh} : Emb G G := ⟨fun _ _ h => h, fun _ _ _ _ _ _ _ _ h => h, fun _ _ _ _ h => h, fun _ h => h⟩
section
variable {X : Cx} {C : Cn} {CX : CXT} {k n : Nat} {ps : List Str} {x : Str} {p pos : Pos} {e : Expr} {es : List Expr} {us : TDa} {ι : Type} {G : ι → Gh} {a : ι → SpD}
theorem uc_e (i : ι) (em : Emb (G i) C.toGh) (ok : C.Ok) (c : CalG X.prog X.w X.K X.mg X.base CX k x ps G a) (room : Room n X.A) (lets : Passes CX X E0) (args : UA X C (e :: es) us) (hk : k ≤ n := by decide) (glob : Gl X x := by rfl)
    (hdb : (x == ("__debug__" : Str)) = false := by decide) (he : starEach (e :: es) X.env = (false, eval e X.env) :: starEach es X.env := by rfl) (hpl : (backTo pos (starEach es X.env)).any (·.1) = false := by rfl) :
    UE X C (.Call (.Name x p) (e :: es) [] pos) (uCg (a i) us) :=
  ⟨PEw (pe_cE c.ca room lets args.run hk glob hdb he hpl) fun σ H Q ⟨F, ρ, n, rel, q⟩ => ⟨F, ρ, n, rel, args.mo _ _ _ _ (fun ds m q vs F1 H1 x1 m1 d1 =>
    ⟨i, F1, ds, m, x1.le, fun b z => ok.fr (rel.x.tr x1) b (em.sub b z), d1, em.dn m H1 m1, c.mo i _ _ _ _ _ _ (fun d m2 q v F2 H2 x2 mm dd => q v F2 H2 (x1.tr (em.pl _ _ _ _ x2)) (em.up m m2 _ _ _ _ m1 x2 mm) dd) (fun _ _ _ _ z => z.elim) q⟩) q⟩, mo_Cg (c.mo i) args.mo⟩
end
/-- the ghost of the law's def: the drawing and the tables of its lambdas -/
theorem tabs_stay {T : List (Addr × Str)} {H H' : Hp} (t : Tabs T H) (h : ∀ a o, H a = some o → ((∀ xs, o ≠ .lst xs) ∧ ∀ kvs, o ≠ .dK kvs) → H' a = some o) : Tabs T H' := fun pq m => by
  obtain ⟨ps, e, ok, among⟩ := t pq m
  refine ⟨ps, h _ _ e ⟨fun _ z => (nomatch z), fun _ z => nomatch z⟩, ok, fun pos cv hc => ?_⟩
  obtain ⟨c, ec, hcc⟩ := among pos cv hc
  exact ⟨c, ec, h _ _ hcc ⟨fun _ z => (nomatch z), fun _ z => nomatch z⟩⟩
def gLaw (T : List (Addr × Str)) (i : Addr × Addr × Addr) : Gh where
  pol := ⟨[i.1, i.2.1], true⟩
  dx := [i.1, i.2.1, i.2.2]
  M := fun n H => Draw H i.1 i.2.1 i.2.2 n ∧ Tabs T H
  kp := fun n H H' h d => ⟨draw_stay d.1 fun a m o e => h a o e (.inl m), tabs_stay d.2 fun a o e z => h a o e (.inr z)⟩
  dm := fun n H d a m => draw_not d.1 a m
theorem gLaw_lam {T : List (Addr × Str)} {i : Addr × Addr × Addr} {F H : Hp} : LamOk (cnOf (gLaw T i) F H) T :=
  ⟨rfl, fun _ _ d => d.2, fun n H H1 d e t => ⟨draw_stay d.1 fun a m o h => e a o h (by obtain ⟨u, hu, z⟩ := draw_not d.1 a m; rw [h] at hu; cases hu; exact z), t⟩⟩
theorem emb_law {T : List (Addr × Str)} {i : Addr × Addr × Addr} : Emb (gDraw i) (gLaw T i) := by
  refine ⟨fun n H d => d.1, fun n n' F H F' H' d x d' => ⟨d', fun pq m => ?_⟩, fun F H F' H' x => ⟨x.up, x.le, x.new, x.keep, fun z => nomatch z⟩, fun b h => h⟩
  obtain ⟨ps, e, ok, among⟩ := d.2 pq m
  refine ⟨ps, x.tk rfl _ _ e, ok, fun pos cv hc => ?_⟩
  obtain ⟨c, ec, hcc⟩ := among pos cv hc
  refine ⟨c, ec, x.keep.all _ _ hcc (fun z => ?_) fun _ z => nomatch z⟩
  obtain ⟨_, gs, cs, left, turn, e1, e2, e3, _⟩ := d.1
  have z : c ∈ [i.1, i.2.1] := z
  simp only [List.mem_cons, List.not_mem_nil, or_false] at z
  have w : H c = some (CodeO c pq.2) := hcc
  unfold CodeO at w
  rcases z with rfl | rfl
  · rw [e1] at w; cases w
  · rw [e2] at w; cases w
/-- the script alone is frozen -/
def scr (H : Hp) (l : Addr) : Hp := fun a => if a = l then (match H l with
  | some (.lst xs) => some (.lst xs)
  | some (.frz o u) => some (.frz o u)
  | _ => none) else none
theorem scr_le {H H1 : Hp} {l : Addr} (k : Keep [] H H1) : Le (scr H l) H1 := fun a o e t => by
  unfold scr at e
  by_cases z : a = l
  · subst z
    rw [if_pos rfl] at e
    have q : H a = some o := by
      split at e <;> rename_i w <;> first | (rw [w]; exact e) | cases e
    exact k.toKeepW.all a o q (fun z => nomatch z) t
  · rw [if_neg z] at e
    cases e
theorem scr_sq {K : PySem.W.Frag} {H : Hp} {l : Addr} {xs : List V} (h : SqL K H l xs) : SqL K (scr H l) l xs := by
  rcases h with (h | ⟨o, h⟩) | h
  · exact .inl (.inl (by unfold scr; rw [if_pos rfl, h]))
  · exact .inl (.inr ⟨o, by unfold scr; rw [if_pos rfl, h]⟩)
  · exact .inr h
theorem scr_fr {H : Hp} {l a : Addr} (h : H a = none) : Fr0 (scr H l) a := fun o e => by
  unfold scr at e
  by_cases z : a = l
  · subst z
    rw [if_pos rfl, h] at e
    cases e
  · rw [if_neg z] at e
    cases e
def tLw (K : PySem.W.Frag) (T : List (Addr × Str)) (w : Addr × Addr × Addr → TDs) : TS := fun D σ H => ∃ i F0 H0, (cnOf (gLaw T i) F0 H0).Ok ∧ tS K (cnOf (gLaw T i) F0 H0) (w i) D σ H
theorem pss_lw {X : Cx} {T : List (Addr × Str)} {rest : List Stmt} {w : Addr × Addr × Addr → TDs} (h : ∀ i F0 H0, (cnOf (gLaw T i) F0 H0).Ok → USs X (cnOf (gLaw T i) F0 H0) rest (w i)) : PSs X rest (tLw X.K T w) :=
  ⟨fun pins s σ H D I ⟨i, F0, H0, ok, q⟩ => (h i F0 H0 ok).run.run pins s σ H D I q⟩
def sp_law (K : PySem.W.Frag) (T : List (Addr × Str)) : Sp := fun vs H Q _ => ∃ (l : Addr) (ns : List Int), vs = [.ref l] ∧ SqL K H l (ns.map V.int) ∧ ns.length ≤ 63 ∧ Tabs T H ∧ ∀ H', Q (.bl true) H'
def lawE : EndD := { nx := fun _ _ => False, rt := fun d _ => d = .bl true }
/-- the law's def: the drawing is begun; what is behind goes on under the drawing's ghost -/
theorem law_run {K : PySem.W.Frag} {T : List (Addr × Str)} {N : List Str} {w : Addr × Addr × Addr → TDs} {D : Ends} {l : Addr} {ns : List Int} {H : Hp} (hN : 1 ≤ N.length) (hl : SqL K H l (ns.map V.int)) (len : ns.length ≤ 63) (tb : Tabs T H) (hD : ∀ H', D.rt (.bl true) H')
    (h : ∀ i, w i lawE (st (startD N [.lst (ns.map .int)]) 1 (.d (.ref i.1))) 0) :
    tSeq (tAsg (tCl (HG.sp_begun K) E0 (tCons (tVar 0) tNil)) (gName 1)) (tLw K T w) D (L2.start N [.ref l]) H := by
  refine ⟨.ref l, rfl, l, ns, rfl, hl, len, fun p g c H1 np ng nc k1 d1 => ?_⟩
  have tb1 : Tabs T H1 := tabs_stay tb fun a o e _ => by
    by_cases t : ∃ ps, o = .tbl ps
    · obtain ⟨ps, z⟩ := t
      subst z
      exact k1.tbl a ps e
    · exact k1.toKeepW.all a o e (fun z => nomatch z) fun ps z => t ⟨ps, z⟩
  have fx : ∀ b ∈ [p, g], Fr0 (scr H l) b := fun b m => by
    simp only [List.mem_cons, List.not_mem_nil, or_false] at m
    rcases m with rfl | rfl
    · exact scr_fr np
    · exact scr_fr ng
  have rel := rel_start (K := K) (G := gLaw T (p, g, c)) (F := scr H l) (H := H1) (N := N) (vs := [.ref l]) (ds := [.lst (ns.map .int)]) (n := 0) (scr_le k1) (.cons (.lst (scr_sq hl) (dda_ints ns)) .nil) ⟨d1, tb1⟩ hN
  refine ⟨(p, g, c), scr H l, H1, ⟨fun b m => ?_, fx, fun b m => draw_not d1 b ?_⟩, scr H l, _, 0, lawE, rel.setD (i := 1) (.ref p), ⟨?_, ?_, ?_, ?_⟩, h (p, g, c)⟩
  · have m : b ∈ [p, g] := m
    show b ∈ [p, g, c]
    simp only [List.mem_cons, List.not_mem_nil, or_false] at m ⊢
    rcases m with m | m
    · exact .inl m
    · exact .inr (.inl m)
  · have m : b ∈ [p, g] := m
    simp only [List.mem_cons, List.not_mem_nil, or_false] at m ⊢
    rcases m with m | m
    · exact .inl m
    · exact .inr (.inl m)
  · exact fun F' ρ n σ H' _ r q => q.elim
  · intro v d F' n H' x m dd q
    obtain rfl : d = .bl true := q
    cases dd
    exact hD H'
  · exact fun F' ρ n σ H' _ r q => q.elim
  · exact fun F' ρ n σ H' _ r q => q.elim
end PU
set_option maxHeartbeats 2000000
namespace L56
open PySem PySem.Spec PyProof.Rows L2 HG PU LamX
def topS (i : Nat) : Stmt := PySem.Challenge.pw_hitclocks_k56_words_put_in_and_taken_out.main.body.getD i (.Pass ⟨0, 0, 0, 0⟩)
theorem scope_by {N P : List Str} {sc : Scope} (kind : sc.kind = .function) (co : sc.isCoroutine = false) (gen : sc.isGenerator = false) (nd : N.Nodup) (pre : N.take P.length = P)
    (par : ∀ x ∈ P, sc.names.lookup x = some .local ∨ sc.names.lookup x = some .cell) (nofree : ∀ y ∈ sc.names, y.2 ≠ .free) : FnScope N P sc := ⟨kind, co, gen, nd, pre, par, nofree⟩
abbrev s_is_number : Stmt := topS 8
theorem sc_is_number : FnScope ["thing"] ["thing"] (defScope s_is_number) := scope_by rfl rfl rfl (by decide +kernel) rfl (by decide +kernel) (by decide +kernel)
abbrev s_is_number_from : Stmt := topS 9
theorem sc_is_number_from : FnScope ["thing", "low", "high"] ["thing", "low", "high"] (defScope s_is_number_from) := scope_by rfl rfl rfl (by decide +kernel) rfl (by decide +kernel) (by decide +kernel)
abbrev s_is_string_of : Stmt := topS 10
theorem sc_is_string_of : FnScope ["thing", "signs", "sign"] ["thing", "signs"] (defScope s_is_string_of) := scope_by rfl rfl rfl (by decide +kernel) rfl (by decide +kernel) (by decide +kernel)
abbrev s_is_letter : Stmt := topS 11
theorem sc_is_letter : FnScope ["thing"] ["thing"] (defScope s_is_letter) := scope_by rfl rfl rfl (by decide +kernel) rfl (by decide +kernel) (by decide +kernel)
abbrev s_is_list : Stmt := topS 12
theorem sc_is_list : FnScope ["thing"] ["thing"] (defScope s_is_list) := scope_by rfl rfl rfl (by decide +kernel) rfl (by decide +kernel) (by decide +kernel)
abbrev s_is_tuple_of : Stmt := topS 13
theorem sc_is_tuple_of : FnScope ["thing", "many"] ["thing", "many"] (defScope s_is_tuple_of) := scope_by rfl rfl rfl (by decide +kernel) rfl (by decide +kernel) (by decide +kernel)
abbrev s_is_pair : Stmt := topS 14
theorem sc_is_pair : FnScope ["thing"] ["thing"] (defScope s_is_pair) := scope_by rfl rfl rfl (by decide +kernel) rfl (by decide +kernel) (by decide +kernel)
abbrev s_is_word : Stmt := topS 16
theorem sc_is_word : FnScope ["thing", "letter"] ["thing"] (defScope s_is_word) := scope_by rfl rfl rfl (by decide +kernel) rfl (by decide +kernel) (by decide +kernel)
abbrev s_check_letters : Stmt := topS 17
theorem sc_check_letters : FnScope ["word"] ["word"] (defScope s_check_letters) := scope_by rfl rfl rfl (by decide +kernel) rfl (by decide +kernel) (by decide +kernel)
abbrev s_put_in : Stmt := topS 18
theorem sc_put_in : FnScope ["word", "breaks", "told", "ahead", "at", "item"] ["word", "breaks"] (defScope s_put_in) := scope_by rfl rfl rfl (by decide +kernel) rfl (by decide +kernel) (by decide +kernel)
abbrev s_taken_out : Stmt := topS 19
theorem sc_taken_out : FnScope ["word", "pieces", "rest", "breaks", "ahead", "at", "piece"] ["word", "pieces"] (defScope s_taken_out) := scope_by rfl rfl rfl (by decide +kernel) rfl (by decide +kernel) (by decide +kernel)
abbrev s_l_begun : Stmt := topS 21
theorem sc_l_begun : FnScope ["script", "large", "cell"] ["script"] (defScope s_l_begun) := scope_by rfl rfl rfl (by decide +kernel) rfl (by decide +kernel) (by decide +kernel)
abbrev s_l_mixed : Stmt := topS 22
theorem sc_l_mixed : FnScope ["state", "found", "prime", "blend", "cell"] ["state"] (defScope s_l_mixed) := scope_by rfl rfl rfl (by decide +kernel) rfl (by decide +kernel) (by decide +kernel)
abbrev s_l_take : Stmt := topS 23
theorem sc_l_take : FnScope ["state", "size", "found"] ["state", "size"] (defScope s_l_take) := scope_by rfl rfl rfl (by decide +kernel) rfl (by decide +kernel) (by decide +kernel)
abbrev s_l_pick : Stmt := topS 24
theorem sc_l_pick : FnScope ["state", "some"] ["state", "some"] (defScope s_l_pick) := scope_by rfl rfl rfl (by decide +kernel) rfl (by decide +kernel) (by decide +kernel)
abbrev s_l_letters : Stmt := topS 25
theorem sc_l_letters : FnScope ["state", "many", "signs", "found", "k", "label", "j", "near", "sign", "one"] ["state", "many"] (defScope s_l_letters) := scope_by rfl rfl rfl (by decide +kernel) rfl (by decide +kernel) (by decide +kernel)
abbrev s_l_word : Stmt := topS 26
theorem sc_l_word : FnScope ["state", "letters", "most", "k"] ["state", "letters", "most"] (defScope s_l_word) := scope_by rfl rfl rfl (by decide +kernel) rfl (by decide +kernel) (by decide +kernel)
abbrev s_l_count : Stmt := topS 27
theorem sc_l_count : FnScope ["thing", "least", "most"] ["thing", "least", "most"] (defScope s_l_count) := scope_by rfl rfl rfl (by decide +kernel) rfl (by decide +kernel) (by decide +kernel)
abbrev s_l_is_word : Stmt := topS 28
theorem sc_l_is_word : FnScope ["thing", "signs", "one", "sign"] ["thing"] (defScope s_l_is_word) := scope_by rfl rfl rfl (by decide +kernel) rfl (by decide +kernel) (by decide +kernel)
abbrev s_l_put : Stmt := topS 29
theorem sc_l_put : FnScope ["word", "breaks", "found", "at", "gap", "inner"] ["word", "breaks"] (defScope s_l_put) := scope_by rfl rfl rfl (by decide +kernel) rfl (by decide +kernel) (by decide +kernel)
abbrev s_l_left : Stmt := topS 30
theorem sc_l_left : FnScope ["word", "pieces", "kept", "start", "size", "at", "breaks"] ["word", "pieces"] (defScope s_l_left) := scope_by rfl rfl rfl (by decide +kernel) rfl (by decide +kernel) (by decide +kernel)
abbrev s_l_first : Stmt := topS 31
theorem sc_l_first : FnScope ["word", "things", "is_break", "least", "at", "item"] ["word", "things", "is_break"] (defScope s_l_first) := scope_by rfl rfl rfl (by decide +kernel) rfl (by decide +kernel) (by decide +kernel)
abbrev s_l_bent : Stmt := topS 32
theorem sc_l_bent : FnScope ["state", "word", "things", "is_break", "at", "size", "gap", "inner", "spot", "item", "bent"] ["state", "word", "things", "is_break"] (defScope s_l_bent) := scope_by rfl rfl rfl (by decide +kernel) rfl (by decide +kernel) (by decide +kernel)
abbrev s_l_told : Stmt := topS 33
theorem sc_l_told : FnScope ["work", "error", "found", "e", "marks", "word"] ["work"] (defScope s_l_told) := scope_by rfl rfl rfl (by decide +kernel) rfl (by decide +kernel) (by decide +kernel)
abbrev s_law : Stmt := topS 34
theorem sc_law : FnScope ["script", "state", "turn", "letters", "word", "gaps", "k", "breaks", "gap", "ends", "pieces", "due", "told", "back", "lap", "bent", "at", "right", "some", "bad"] ["script"] (defScope s_law) := scope_by rfl rfl rfl (by decide +kernel) rfl (by decide +kernel) (by decide +kernel)
end L56
set_option maxHeartbeats 2000000
namespace L56
open PySem PySem.Spec PyProof.Rows L2 HG
section
variable {P : Program} {w : World} {K : PySem.W.Frag} {mg : Str → Option Value} {base : Heap}
theorem ok_mixed (D : Def K mg "_law_mixed" s_l_mixed ["state"]) (zi : mg "int" = none) :
    Callee P w K mg base CX0 1 "_law_mixed" ["state"] sp_mixed := by
  refine D.ok sc_l_mixed (fun vs H Q E h => ?_) (fun f cdv A outer s H vs Q E hr h => ?_)
  · obtain ⟨p, g, c, n, rfl, _⟩ := h
    rfl
  · obtain ⟨p, g, c, n, rfl, dr, small, q⟩ := h
    have nd := sc_l_mixed.nd
    have hu := hu_of hr
    refine ⟨_, pss_cons (ps_dput hu (pv 0) pe_str (pe_op op_add (pe_dget hu (pv 0) pe_str (fun _ _ => rfl)) pe_int) rfl)
      (pss_cons (ps_set (i := 1) nd rfl (.inl rfl) pe_int)
      (pss_cons (ps_for PassesOwn.never rfl (pi_list (pe_lst (pa_cons pe_int (pa_cons pe_int (pa_cons pe_int (pa_cons pe_int pa_nil))))))
          (pg_name (i := 2) nd rfl (.inl rfl))
        (pss_cons (ps_set (i := 3) nd rfl (.inl rfl) (pe_op op_add (pe_op op_mul pe_int (pe_dget hu (pv 0) pe_str (fun _ _ => rfl))) (pe_op op_fdiv (pv 2) pe_int)))
        (pss_cons (ps_for PassesOwn.never rfl (pi_list (pe_dget hu (pv 0) pe_str (fun _ _ => rfl))) (pg_name (i := 4) nd rfl (.inl rfl))
          (pss_one (ps_set (i := 3) nd rfl (.inl rfl) (pe_op op_mod (pe_callTy call_int1 (by rfl) zi (by decide +kernel)
            (pa_cons (pe_op op_add (pe_op op_mul (pv 3) pe_int) (pv 4)) pa_nil)) (pv 2)))))
        (pss_one (ps_set (i := 1) nd rfl (.inl rfl) (pe_op op_add (pe_op op_mul (pv 1) pe_int)
          (pe_op op_mod (pe_callTy call_int1 (by rfl) zi (by decide +kernel) (pa_cons (pe_op op_pow (pv 3) pe_int) pa_nil)) (pv 2))))))))
      (pss_one (ps_ret (pv 1))))), ?_⟩
    obtain ⟨gs, cs, left, turn, e1, e2, e3, t0, t1⟩ := dr.ex
    have npg : p ≠ g := ne_of e1 e2 (fun z => nomatch z)
    have npc : p ≠ c := ne_of e1 e3 (fun z => nomatch z)
    refine ⟨.ref p, rfl, p, .int turn, rfl, dget_of (k := Sum.inr "turn") e1 drawK_turn, turn, 1, rfl, rfl, .ref p, rfl, p, _, rfl, dput_of (k := Sum.inr "turn") e1 drawK_put_turn (by show 4 < 1000; decide), ?_⟩
    refine ⟨by show 4 ≤ sizeLine; decide, fun l hl => ?_⟩
    have k1 : Keep [p] H (upd H p (.dK (drawK g c left (turn + 1)))) := Keep.chg e1 List.mem_cons_self (fun _ z => nomatch z) (fun _ _ z => nomatch z)
    have k2 := k1.trans (Keep.new (ex := [p]) (o := HO.lst [V.int 2147483629, V.int 2147483587, V.int 2147483579, V.int 2147483563]) hl)
    generalize hH : upd (upd H p (.dK (drawK g c left (turn + 1)))) l (.lst [V.int 2147483629, V.int 2147483587, V.int 2147483579, V.int 2147483563]) = H2 at k2 ⊢
    have nl : l ≠ p := fun z => by
      rw [z, upd_same] at hl
      cases hl
    have eL : SqL K H2 l [V.int 2147483629, V.int 2147483587, V.int 2147483579, V.int 2147483563] := by
      rw [← hH]
      exact .inl (.inl upd_same)
    have eP : H2 p = some (.dK (drawK g c left (turn + 1))) := by
      rw [← hH, upd_ne nl.symm, upd_same]
    have eG : H2 g = some (.lst (gs.map V.int)) := k2.get e2 (by simp [npg.symm])
    have eC : H2 c = some (.lst (cs.map V.int)) := k2.get e3 (by simp [npc.symm])
    have dr2 : Draw H2 p g c (n + 1) := ⟨dr.ne, gs, cs, left, turn + 1, eP, eG, eC, by omega, by omega⟩
    refine ⟨l, rfl, ⟨_, eL⟩, for_list (xs := [V.int 2147483629, V.int 2147483587, V.int 2147483579, V.int 2147483563]) (fun i σ H' => ∃ found y3 y4 y5, σ = [some (.ref p), some (.int found), y3, y4, y5] ∧ H2 = H')
      ⟨0, none, none, none, rfl, rfl⟩ (fun i σ H' _ hh => ?_) (fun i x σ H' hx hh => ?_) (fun σ H' hh => ?_)⟩
    · obtain ⟨_, _, _, _, _, rfl⟩ := hh
      exact eL
    · obtain ⟨found, y3, y4, y5, rfl, rfl⟩ := hh
      obtain ⟨pr, rfl, p0, p1⟩ : ∃ pr : Int, x = .int pr ∧ 0 < pr ∧ pr ≤ 2147483647 := by
        rcases i with _ | _ | _ | _ | i <;> first | (cases hx; exact ⟨_, rfl, by decide, by decide⟩) | cases hx
      refine ⟨.ref p, rfl, p, .int (turn + 1), rfl, dget_of (k := Sum.inr "turn") eP drawK_turn, _, _, rfl, rfl, .inl ⟨by decide, by decide⟩, _, rfl, _, _, rfl, rfl, ⟨by decide, by decide⟩, _, _, rfl, rfl, ?_⟩
      have b0 : -(2 ^ 64) < 104729 * (turn + 1) + pr / 7 ∧ 104729 * (turn + 1) + pr / 7 < 2 ^ 64 := by omega
      refine ⟨.ref p, rfl, p, .ref c, rfl, dget_of (k := Sum.inr "cells") eP drawK_cells, c, rfl, ⟨_, .inl (.inl eC)⟩,
        for_list (xs := cs.map V.int) (fun j σ H' => ∃ (blend : Int) (y5 : Option V), σ = [some (.ref p), some (.int found), some (.int pr), some (.int blend), y5] ∧ H2 = H' ∧ -(2 ^ 64) < blend ∧ blend < 2 ^ 64)
        ⟨_, y5, rfl, rfl, b0⟩ (fun j σ H' _ hh => ?_) (fun j x σ H' hx hh => ?_) (fun σ H' hh => ?_)⟩
      · obtain ⟨_, _, _, rfl, _⟩ := hh
        exact .inl (.inl eC)
      · obtain ⟨blend, y5, rfl, rfl, b1, b2⟩ := hh
        obtain ⟨cell, rfl⟩ : ∃ cell : Int, x = .int cell := by
          rw [List.getElem?_map] at hx
          cases e : cs[j]? with
          | none => rw [e] at hx; cases hx
          | some z => rw [e] at hx; cases hx; exact ⟨z, rfl⟩
        refine ⟨_, rfl, _, _, rfl, rfl, .inr ⟨by decide, by decide⟩, _, rfl, _, _, rfl, rfl, .inl ⟨_, rfl, _, rfl, _, _, rfl, rfl, p0, ?_⟩⟩
        refine ⟨_, _, rfl, rfl, ?_, ?_⟩
        · have := Int.emod_nonneg (blend * 48271 + cell) (show pr ≠ 0 by omega)
          omega
        · have := Int.emod_lt_of_pos (blend * 48271 + cell) p0
          omega
      · obtain ⟨blend, y5, rfl, rfl, b1, b2⟩ := hh
        refine ⟨_, rfl, _, _, rfl, rfl, .inr ⟨by decide, by decide⟩, _, rfl, _, _, rfl, rfl, ⟨by decide, by decide, by omega⟩, .inl ⟨_, rfl, _, rfl, _, _, rfl, rfl, p0, _, _, rfl, rfl, ?_⟩⟩
        exact ⟨_, _, _, _, rfl, rfl⟩
    · obtain ⟨found, y3, y4, y5, rfl, rfl⟩ := hh
      exact ⟨.int found, rfl, q found _ k2 dr2⟩
theorem ok_take (D : Def K mg "_law_take" s_l_take ["state", "size"]) (zi : mg "int" = none)
    (CM : Callee P w K mg base CX0 1 "_law_mixed" ["state"] sp_mixed) :
    Callee P w K mg base CX0 2 "_law_take" ["state", "size"] sp_take := by
  refine D.ok sc_l_take (fun vs H Q E h => ?_) (fun f cdv A outer s H vs Q E hr h => ?_)
  · obtain ⟨p, g, c, n, m, rfl, _⟩ := h
    rfl
  · obtain ⟨p, g, c, n, m, rfl, dr, small, m0, m1, q⟩ := h
    have nd := sc_l_take.nd
    have hu := hu_of hr
    refine ⟨_, pss_cons (ps_if (pt_cmpR op_eq (pe_dget hu (pv 0) pe_str (fun _ _ => rfl)) pe_int (nomark _))
        (pss_one (ps_dput hu (pv 0) pe_str (pe_ifExp (pt_cmpR (op_neD hr.units) (pe_dget hu (pv 0) pe_str (fun _ _ => rfl)) (pe_lst pa_nil) (nomark _))
          (pe_bm PySem.F.plainAttrs_list PySem.F.slot_list_pop PySem.F.type_list_pop mt_popAt (pe_dget hu (pv 0) pe_str (fun _ _ => rfl)) (pa_cons pe_int pa_nil))
          (pe_c CM hr (pa_cons (pv 0) pa_nil))) rfl)) pss_nil)
      (pss_cons (ps_set (i := 2) nd rfl (.inl rfl) (pe_op op_mod (pe_callTy call_int1 (by rfl) zi (by decide +kernel) (pa_cons (pe_dget hu (pv 0) pe_str (fun _ _ => rfl)) pa_nil)) (pv 1)))
      (pss_cons (ps_dput hu (pv 0) pe_str (pe_op op_fdivW (pe_dget hu (pv 0) pe_str (fun _ _ => rfl)) (pv 1)) rfl)
      (pss_one (ps_ret (pv 2))))), ?_⟩
    refine seq_join (fun σ H1 => σ = [some (.ref p), some (.int m), none] ∧ Keep [p, g] H H1 ∧ Draw H1 p g c (n + 1)) (fun NX nx => ?_) (fun σ H1 hh => ?_)
    · obtain ⟨gs, cs, left, turn, e1, e2, e3, t0, t1⟩ := dr.ex
      have npg : p ≠ g := ne_of e1 e2 (fun z => nomatch z)
      refine ⟨.ref p, rfl, p, .int left, rfl, dget_of (k := Sum.inr "rest") e1 drawK_left, rfl, _, rfl, ite2 (fun z => ?_) (fun z => ?_)⟩
      · refine ⟨.ref p, rfl, p, .ref g, rfl, dget_of (k := Sum.inr "large") e1 drawK_great, by show 0 ≤ sizeLine; decide, fun l hl => ?_⟩
        have kl : Keep [p, g] H (upd H l (.lst [])) := Keep.new hl
        have eP : upd H l (.lst []) p = some (.dK (drawK g c left turn)) := by
          rw [upd_ne (ne_of_none e1 hl)]
          exact e1
        have eG : upd H l (.lst []) g = some (.lst (gs.map V.int)) := by
          rw [upd_ne (ne_of_none e2 hl)]
          exact e2
        have eC : upd H l (.lst []) c = some (.lst (cs.map V.int)) := by
          rw [upd_ne (ne_of_none e3 hl)]
          exact e3
        have eL : upd H l (.lst []) l = some (.lst []) := upd_same
        generalize upd H l (.lst []) = H1 at kl eP eG eC eL ⊢
        refine ⟨.list (gs.map PyData.int), .list [], .lst (.inl (.inl eG)) (dpAll_ints gs), .lst (.inl (.inl eL)) .nil, shaped_ints gs, shaped_ints [], _, rfl, ?_⟩
        rw [eqv_ints_nil]
        cases gs with
        | nil =>
          refine ⟨.ref p, rfl, p, g, c, n, rfl, ⟨dr.ne, [], cs, left, turn, eP, eG, eC, t0, t1⟩, small, fun r H2 k2 d2 => ?_⟩
          obtain ⟨gs2, cs2, left2, turn2, f1, f2, f3, u0, u1⟩ := d2.ex
          refine ⟨.ref p, rfl, p, _, rfl, dput_of (k := Sum.inr "rest") f1 drawK_put_left (by show 4 < 1000; decide), ?_⟩
          have k3 : Keep [p, g] H2 (upd H2 p (.dK (drawK g c r turn2))) := Keep.chg f1 List.mem_cons_self (fun _ z => nomatch z) (fun _ _ z => nomatch z)
          refine nx _ _ ⟨rfl, (kl.trans (k2.more (by simp))).trans k3, dr.ne, gs2, cs2, r, turn2, upd_same, ?_, ?_, u0, u1⟩
          · rw [upd_ne npg.symm]
            exact f2
          · rw [upd_ne (ne_of e1 e3 (fun z => nomatch z)).symm]
            exact f3
        | cons x r =>
          refine ⟨.ref p, rfl, p, .ref g, rfl, dget_of (k := Sum.inr "large") eP drawK_great, .inl ⟨rfl, _, .inl (.inl eG)⟩, g, _, 0, 0, .int x, rfl, rfl, eG, by decide, by decide, ?_, rfl, ?_⟩
          · rw [List.map_cons, List.length_cons]
            simp [seqIndex?]
          · have f1 : upd H1 g (.lst ((List.map V.int (x :: r)).eraseIdx 0)) p = some (.dK (drawK g c left turn)) := by
              rw [upd_ne npg]
              exact eP
            refine ⟨.ref p, rfl, p, _, rfl, dput_of (k := Sum.inr "rest") f1 drawK_put_left (by show 4 < 1000; decide), ?_⟩
            have k2 : Keep [p, g] H1 (upd H1 g (.lst ((List.map V.int (x :: r)).eraseIdx 0))) := Keep.chg eG (by simp) (fun _ z => nomatch z) (fun _ _ z => nomatch z)
            have k3 : Keep [p, g] _ (upd (upd H1 g (.lst ((List.map V.int (x :: r)).eraseIdx 0))) p (.dK (drawK g c x turn))) :=
              Keep.chg f1 List.mem_cons_self (fun _ z => nomatch z) (fun _ _ z => nomatch z)
            refine nx _ _ ⟨rfl, (kl.trans k2).trans k3, dr.ne, r, cs, x, turn, upd_same, ?_, ?_, t0, by omega⟩
            · rw [upd_ne npg.symm, upd_same]
              rfl
            · rw [upd_ne (ne_of e1 e3 (fun z => nomatch z)).symm, upd_ne dr.ne.symm]
              exact eC
      · exact nx _ _ ⟨rfl, Keep.refl, dr.ne, gs, cs, left, turn, e1, e2, e3, t0, by omega⟩
    · obtain ⟨rfl, k1, d1⟩ := hh
      obtain ⟨gs, cs, left, turn, e1, e2, e3, t0, t1⟩ := d1.ex
      have npg : p ≠ g := ne_of e1 e2 (fun z => nomatch z)
      refine ⟨.ref p, rfl, p, .int left, rfl, dget_of (k := Sum.inr "rest") e1 drawK_left, .inl ⟨_, rfl, _, rfl, _, _, rfl, rfl, m0, ?_⟩⟩
      refine ⟨.ref p, rfl, p, .int left, rfl, dget_of (k := Sum.inr "rest") e1 drawK_left, _, rfl, _, _, rfl, rfl, wide_div m0 (b := 64) (by omega) (by decide) (by decide), ?_⟩
      refine ⟨.ref p, rfl, p, _, rfl, dput_of (k := Sum.inr "rest") e1 drawK_put_left (by show 4 < 1000; decide), ?_⟩
      have k2 : Keep [p, g] H1 (upd H1 p (.dK (drawK g c (left / m) turn))) := Keep.chg e1 List.mem_cons_self (fun _ z => nomatch z) (fun _ _ z => nomatch z)
      refine ⟨_, rfl, q _ _ (Int.emod_nonneg _ (by omega)) (Int.emod_lt_of_pos _ m0) (k1.trans k2) ⟨dr.ne, gs, cs, left / m, turn, upd_same, ?_, ?_, t0, t1⟩⟩
      · rw [upd_ne npg.symm]
        exact e2
      · rw [upd_ne (ne_of e1 e3 (fun z => nomatch z)).symm]
        exact e3
end
end L56
namespace L56
open PySem PySem.Spec PyProof.Rows L2 HG
section
variable {P : Program} {w : World} {K : PySem.W.Frag} {mg : Str → Option Value} {base : Heap}
theorem ok_pick (D : Def K mg "_law_pick" s_l_pick ["state", "some"]) (zl : mg "len" = none)
    (CT : Callee P w K mg base CX0 2 "_law_take" ["state", "size"] sp_take) :
    Callee P w K mg base CX0 3 "_law_pick" ["state", "some"] (sp_pick K) := by
  refine D.ok sc_l_pick (fun vs H Q E h => ?_) (fun f cdv A outer s H vs Q E hr h => ?_)
  · obtain ⟨p, g, c, n, l, xs, rfl, _⟩ := h
    rfl
  · obtain ⟨p, g, c, n, l, xs, rfl, dr, small, hl, nl, x0, x1, q⟩ := h
    refine ⟨_, pss_one (ps_ret (pe_ix ix_list (pv 1) (pe_c CT hr (pa_cons (pv 0) (pa_cons (pe_callB call_len_seq (by rfl) zl PySem.boot_len (pa_cons (pv 1) pa_nil)) pa_nil))) (fun _ _ => rfl))), ?_⟩
    refine ⟨.ref l, rfl, .ref p, rfl, .ref l, rfl, l, xs, rfl, .inl hl, p, g, c, n, xs.length, rfl, dr, small, by omega, by omega, fun r H1 r0 r1 k d => ?_⟩
    obtain ⟨v, h1, h2⟩ := atI_of r0 r1
    exact ⟨l, xs, r, v, rfl, rfl, sqL_keep k nl hl, h2, q _ _ _ h1 k d⟩
theorem ok_begun (D : Def K mg "_law_begun" s_l_begun ["script"]) (za : mg "abs" = none) (zi : mg "int" = none) :
    Callee P w K mg base CX0 1 "_law_begun" ["script"] (sp_begun K) := by
  refine D.ok sc_l_begun (fun vs H Q E h => ?_) (fun f cdv A outer s H vs Q E hr h => ?_)
  · obtain ⟨l, ns, rfl, _⟩ := h
    rfl
  · obtain ⟨l, ns, rfl, hl, len, q⟩ := h
    have nd := sc_l_begun.nd
    have hu := hu_of hr
    refine ⟨_, pss_cons (ps_setLc (i := 1) (own := [("cell", 2)]) (g := gName 2) rfl nd rfl rfl (sw_true rfl rfl rfl (by decide +kernel)) (pi_list (pv 0))
        (blkOk_by (N := ["script", "large", "cell"]) (sc := defScope s_l_begun) (by decide +kernel)) (fun _ _ _ _ _ => pg_name (i := 2) nd rfl (Or.inl rfl))
        (fun _ _ _ _ _ => pts_one (pt_cmpR op_ge (pe_callB call_abs (by rfl) za (by decide +kernel) (pa_cons (pv 2) pa_nil)) (pe_op op_pow pe_int pe_int) (nomark _)))
        (fun _ _ _ _ _ => pe_op op_sub (pe_callB call_abs (by rfl) za (by decide +kernel) (pa_cons (pv 2) pa_nil)) (pe_op op_pow pe_int pe_int)))
      (pss_one (ps_ret (pe_disp (pps_cons pe_str (pv 1) (pps_cons pe_str
        (pe_lc (own := [("cell", 2)]) (g := gName 2) rfl nd (pi_list (pv 0))
          (blkOk_by (N := ["script", "large", "cell"]) (sc := defScope s_l_begun) (by decide +kernel)) (fun _ _ _ _ _ => pg_name (i := 2) nd rfl (Or.inl rfl))
          (fun _ _ _ _ _ => pts_nil)
          (fun _ _ _ _ _ => pe_callB call_abs (by rfl) za (by decide +kernel) (pa_cons (pv 2) pa_nil)))
        (pps_cons pe_str pe_int (pps_cons pe_str pe_int pps_nil)))) rfl rfl (fun z => nomatch z) (by decide)))), ?_⟩
    have item : ∀ (i : Nat) (x : V), (ns.map V.int)[i]? = some x → ∃ z : Int, x = .int z := fun i x hx => by
      rw [List.getElem?_map] at hx
      cases e : ns[i]? with
      | none => rw [e] at hx; cases hx
      | some z => rw [e] at hx; cases hx; exact ⟨z, rfl⟩
    have pw : CPow 10 18 := ⟨by decide, by decide, by decide⟩
    refine seq_join (fun σ H1 => ∃ (g : Addr) (gs : List Int), σ = [some (.ref l), some (.ref g), none] ∧ H g = none ∧ Keep [] H H1 ∧ H1 g = some (.lst (gs.map V.int)) ∧ gs.length ≤ 63) (fun NX nx => ?_) (fun σ H1 hh => ?_)
    · refine ⟨.ref l, rfl, l, rfl, ⟨_, hl⟩, fun D nD => ?_⟩
      refine lc_list (xs := ns.map V.int) (fun i H' => Keep [] H H' ∧ ∃ acc : List Int, H' D = some (.lst (acc.map V.int)) ∧ acc.length ≤ i) ⟨Keep.new nD, [], upd_same, Nat.le_refl 0⟩
        (fun i H' _ hh => sqL_keep hh.1.toKeepW (by simp) hl) (fun i x H' hx hh => ?_) (fun H' hh => ?_)
      · obtain ⟨k, acc, eD, len⟩ := hh
        obtain ⟨z, rfl⟩ := item i x hx
        have il : i < 63 := by
          have := (List.getElem?_eq_some_iff.mp hx).1
          rw [List.length_map] at this
          omega
        refine ⟨rfl, .int z, rfl, z, rfl, _, _, rfl, rfl, pw, _, _, rfl, rfl, _, rfl, ite2 (fun _ => ?_) (fun _ => ?_)⟩
        · refine ⟨.int z, rfl, z, rfl, _, _, rfl, rfl, pw, _, _, rfl, rfl, acc.map V.int, eD, ?_, ?_, acc ++ [(if z < 0 then -z else z) - 10 ^ (18 : Int).toNat], ?_, ?_⟩
          · rw [List.length_map]
            exact small1000 (by omega)
          · exact k.mut nD
          · rw [upd_same, List.map_append]
            rfl
          · rw [List.length_append]
            simp only [List.length_singleton]
            omega
        · exact ⟨k, acc, eD, by omega⟩
      · obtain ⟨k, acc, eD, len'⟩ := hh
        rw [List.length_map] at len'
        exact nx _ _ ⟨D, acc, rfl, nD, k, eD, by omega⟩
    · obtain ⟨g, gs, rfl, ng, k, eg, lg⟩ := hh
      refine fun p np => ?_
      have kp : Keep [] H1 (upd H1 p (.dK [])) := Keep.new np
      have npg : g ≠ p := ne_of_none eg np
      refine ⟨.ref g, rfl, .ref l, rfl, l, rfl, ⟨_, sqL_keep (k.trans kp).toKeepW (by simp) hl⟩, fun D nD => ?_⟩
      have npD : p ≠ D := fun z => by
        rw [← z, upd_same] at nD
        cases nD
      have nD1 : H1 D = none := by
        rw [upd_ne npD.symm] at nD
        exact nD
      refine lc_list (xs := ns.map V.int) (fun i H' => (∀ a o, upd H1 p (.dK []) a = some o → H' a = some o) ∧ ∃ acc : List Int, H' D = some (.lst (acc.map V.int)) ∧ acc.length ≤ i) ⟨fun a o e => ?_, [], upd_same, Nat.le_refl 0⟩
        (fun i H' _ hh => sqL_keep ((k.trans kp).trans (Keep.ext hh.1)).toKeepW (by simp) hl) (fun i x H' hx hh => ?_) (fun H' hh => ?_)
      · rw [upd_ne (ne_of_none e nD)]
        exact e
      · obtain ⟨k, acc, eD, len⟩ := hh
        obtain ⟨z, rfl⟩ := item i x hx
        have il : i < 63 := by
          have := (List.getElem?_eq_some_iff.mp hx).1
          rw [List.length_map] at this
          omega
        refine ⟨rfl, .int z, rfl, z, rfl, acc.map V.int, eD, ?_, ?_, acc ++ [(if z < 0 then -z else z)], ?_, ?_⟩
        · rw [List.length_map]
          exact small1000 (by omega)
        · exact fun a o e => by rw [upd_ne (ne_of_none e nD)]; exact k a o e
        · rw [upd_same, List.map_append]
          rfl
        · rw [List.length_append]
          simp only [List.length_singleton]
          omega
      · obtain ⟨kk, acc, eD, len'⟩ := hh
        have eP : H' p = some (.dK []) := kk p _ upd_same
        have eG : H' g = some (.lst (gs.map V.int)) := kk g _ (by rw [upd_ne npg]; exact eg)
        have ngD : g ≠ D := ne_of_none eg nD1
        refine ⟨eP, [(.inr "large", .ref g), (.inr "cells", .ref D), (.inr "rest", .int 0), (.inr "turn", .int 0)], rfl, by show 4 ≤ 15; decide, ?_⟩
        have kAll : Keep [] H (upd H' p (.dK (drawK g D 0 0))) := by
          have base : Keep [] H H' := (k.trans kp).trans (Keep.ext kk)
          exact base.mut (k.none np)
        refine q p g D _ (k.none np) ng (k.none nD1) kAll ⟨ngD, gs, acc, 0, 0, upd_same, ?_, ?_, by decide, by decide⟩
        · rw [upd_ne npg]
          exact eG
        · rw [upd_ne npD.symm]
          exact eD
end
end L56
set_option maxHeartbeats 2000000
namespace L56
open PySem PySem.Spec PyProof.Rows L2 HG PU LamX
section
variable {P : Program} {w : World} {K : PySem.W.Frag} {mg : Str → Option Value} {base : Heap}
def sp_is_number : SpD := spF (fun d => [d]) (fun d => fine d = true) fun d => .bl (isNum d)
theorem ok_is_number (D : Def K mg "is_number" s_is_number ["thing"])
    (z_bool : mg "bool" = none)
    (z_int : mg "int" = none)
    (z_isinstance : mg "isinstance" = none)
     :
    CalG P w K mg base CX0 1 "is_number" ["thing"] (fun _ : Unit => gh0) (fun _ => sp_is_number) := by
  refine D.uk sc_is_number (fun i => gh0_ok) (fun _ => mo_F) (fun _ ds n Q E ⟨x, e, _⟩ => by rw [e]; rfl) (fun i f cdv A outer s F H Ev ds n Q E hC hr h => ?_)
  have nd := sc_is_number.nd
  have hu := hr.units
  obtain ⟨d, rfl, hd, q⟩ := h
  try dsimp only at q
  refine ⟨_, (us_one (us_ret (ue_and (ue_isi .int (ue_var (i := 0)) z_isinstance z_int) (ue_one (ue_not (ue_isi .bool (ue_var (i := 0)) z_isinstance z_bool)))))), ?_⟩
  cases d <;> first | exact q | cases hd
def sp_is_number_from : SpD := spF (fun (x : D × Int × Int) => [x.1, .int x.2.1, .int x.2.2]) (fun x => fine x.1 = true) fun x => .bl (numIn x.2.1 x.2.2 x.1)
theorem ok_is_number_from (D : Def K mg "is_number_from" s_is_number_from ["thing", "low", "high"])
    (c_is_number : CalG P w K mg base CX0 1 "is_number" ["thing"] (fun _ : Unit => gh0) (fun _ => sp_is_number))
     :
    CalG P w K mg base CX0 2 "is_number_from" ["thing", "low", "high"] (fun _ : Unit => gh0) (fun _ => sp_is_number_from) := by
  refine D.uk sc_is_number_from (fun i => gh0_ok) (fun _ => mo_F) (fun _ ds n Q E ⟨x, e, _⟩ => by rw [e]; rfl) (fun i f cdv A outer s F H Ev ds n Q E hC hr h => ?_)
  have nd := sc_is_number_from.nd
  have hu := hr.units
  obtain ⟨⟨d, lo, hi⟩, rfl, hd, q⟩ := h
  try dsimp only at q
  refine ⟨_, (us_one (us_ret (ue_and (uc_p c_is_number hr pass0 (ua_cons (ue_var (i := 0)) ua_nil)) (ue_one (ue_chain opd_le opd_le (ue_var (i := 1)) (ue_var (i := 0)) (ue_var (i := 2))))))), ?_⟩
  refine ⟨d, rfl, hd, ?_⟩
  cases d with
  | int i =>
    show if decide (lo ≤ i) = true then Q (.bl (decide (i ≤ hi))) n else Q (.bl false) n
    dsimp only [numIn] at q
    exact ite_b (fun e => by rw [e] at q; exact q) (fun e => by rw [e] at q; exact q)
  | _ => first | exact q | cases hd
def sp_is_string_of : SpD := spF (fun d => [d, .str signs]) (fun d => fine d = true) fun d => .bl (isLet d)
theorem ok_is_string_of (D : Def K mg "is_string_of" s_is_string_of ["thing", "signs"])
    (z_isinstance : mg "isinstance" = none)
    (z_len : mg "len" = none)
    (z_str : mg "str" = none)
    (g_LONGEST_SIGNS : ∃ t, mg "LONGEST_SIGNS" = some (.int 12 t))
     :
    CalG P w K mg base CX0 1 "is_string_of" ["thing", "signs"] (fun _ : Unit => gh0) (fun _ => sp_is_string_of) := by
  refine D.uk sc_is_string_of (fun i => gh0_ok) (fun _ => mo_F) (fun _ ds n Q E ⟨x, e, _⟩ => by rw [e]; rfl) (fun i f cdv A outer s F H Ev ds n Q E hC hr h => ?_)
  have nd := sc_is_string_of.nd
  have hu := hr.units
  obtain ⟨t_LONGEST_SIGNS, g_LONGEST_SIGNS⟩ := g_LONGEST_SIGNS
  obtain ⟨d, rfl, hd, q⟩ := h
  try dsimp only at q
  refine ⟨_, (us_cons (us_if (UW.ut (uw_or (ut_not (ut_val (ue_isi .str (ue_var (i := 0)) z_isinstance z_str))) (uw_or1 (ut_not (ut_chain opd_le opd_le ue_int (ue_callB cd_len z_len (ua_cons (ue_var (i := 0)) ua_nil)) (ue_glob (v := .int 12) (d := .int 12) g_LONGEST_SIGNS ⟨_, rfl⟩ (fun _ => .int _))))))) (us_one (us_ret ue_bl)) us_nil)
      (us_cons (us_for (ui_str (ue_var (i := 0))) (ug_name (i := 2) nd)
      (us_one (us_if (ut_cmp opd_notInS (ue_var (i := 2)) (ue_var (i := 1))) (us_one (us_ret ue_bl)) us_nil)))
      (us_one (us_ret ue_bl)))), ?_⟩
  cases d with
  | str z =>
    have hz : z.length < 1000 := by simpa [fine] using hd
    have hz2 : z.length ≤ sizeLine := Nat.le_of_lt (Nat.lt_of_lt_of_le hz (by decide))
    show (z.length ≤ sizeLine ∧ if decide ((1 : Int) ≤ z.length) = true then (if (!decide ((z.length : Int) ≤ 12)) = true then Q (.bl false) n else _) else Q (.bl false) n)
    refine ⟨hz2, ite_b (fun e => ite_b (fun e2 => ?_) fun e2 => ?_) fun e => ?_⟩
    · have : isLet (.str z) = false := by
        have e3 : ¬ (z.length ≤ 12) := by
          have : (12 : Int) < z.length := by simpa using e2
          omega
        simp [isLet, letS, e3]
      rw [this] at q
      exact q
    · have h1 : 1 ≤ z.length := by have := of_decide_eq_true e; omega
      have h2 : z.length ≤ 12 := by
        have : (z.length : Int) ≤ 12 := by simpa using e2
        omega
      refine ⟨fun i ρ k => k = n ∧ (∃ y, ρ = [.d (.str z), .d (.str signs), y]) ∧ (z.cps.toList.take i).all (fun c => decide (c ∈ signs.cps.toList)) = true, ⟨rfl, ⟨_, rfl⟩, by simp⟩, fun i x ρ k hx hp => ?_, fun ρ k hp => ?_⟩
      · obtain ⟨rfl, ⟨y, rfl⟩, hp⟩ := hp
        obtain ⟨c, hc, rfl⟩ := sgs_get hx
        refine ⟨c, signs, rfl, rfl, ite_b (fun e3 => ?_) fun e3 => ?_⟩
        · have : isLet (.str z) = false := by
            show letS z = false
            unfold letS
            rw [all_not hc (by simpa using e3)]
            simp
          rw [this] at q
          exact q
        · exact ⟨rfl, ⟨_, rfl⟩, all_take hc hp (by simpa using e3)⟩
      · obtain ⟨rfl, ⟨y, rfl⟩, hp⟩ := hp
        have : isLet (.str z) = true := by
          rw [sgs_len] at hp
          rw [List.take_of_length_le (by simp [PySem.Str.length])] at hp
          show letS z = true
          unfold letS
          rw [hp]
          simp [h1, h2]
        rw [this] at q
        exact q
    · have : isLet (.str z) = false := by
        have e3 : ¬ (1 ≤ z.length) := by have := of_decide_eq_false e; omega
        simp [isLet, letS, e3]
      rw [this] at q
      exact q
  | _ => first | exact q | cases hd
def sp_is_letter : SpD := spF (fun d => [d]) (fun d => fine d = true) fun d => .bl (isLet d)
theorem ok_is_letter (D : Def K mg "is_letter" s_is_letter ["thing"])
    (g_LETTER_SIGNS : ∃ t, mg "LETTER_SIGNS" = some (.str "ABCDEFGHIJKLMNOPQRSTUVWXYZabcdefghijklmnopqrstuvwxyz0123456789." t))
    (c_is_string_of : CalG P w K mg base CX0 1 "is_string_of" ["thing", "signs"] (fun _ : Unit => gh0) (fun _ => sp_is_string_of))
     :
    CalG P w K mg base CX0 2 "is_letter" ["thing"] (fun _ : Unit => gh0) (fun _ => sp_is_letter) := by
  refine D.uk sc_is_letter (fun i => gh0_ok) (fun _ => mo_F) (fun _ ds n Q E ⟨x, e, _⟩ => by rw [e]; rfl) (fun i f cdv A outer s F H Ev ds n Q E hC hr h => ?_)
  have nd := sc_is_letter.nd
  have hu := hr.units
  obtain ⟨t_LETTER_SIGNS, g_LETTER_SIGNS⟩ := g_LETTER_SIGNS
  obtain ⟨d, rfl, hd, q⟩ := h
  try dsimp only at q
  refine ⟨_, (us_one (us_ret (uc_p c_is_string_of hr pass0 (ua_cons (ue_var (i := 0)) (ua_cons (ue_glob (v := .str "ABCDEFGHIJKLMNOPQRSTUVWXYZabcdefghijklmnopqrstuvwxyz0123456789.") (d := .str "ABCDEFGHIJKLMNOPQRSTUVWXYZabcdefghijklmnopqrstuvwxyz0123456789.") g_LETTER_SIGNS ⟨_, rfl⟩ (fun _ => .str _)) ua_nil))))), ?_⟩
  exact ⟨d, rfl, hd, q⟩
def sp_is_list : SpD := spF (fun d => [d]) (fun d => fine d = true) fun d => .bl (isRow d)
theorem ok_is_list (D : Def K mg "is_list" s_is_list ["thing"])
    (z_isinstance : mg "isinstance" = none)
    (z_list : mg "list" = none)
    (z_tuple : mg "tuple" = none)
     :
    CalG P w K mg base CX0 1 "is_list" ["thing"] (fun _ : Unit => gh0) (fun _ => sp_is_list) := by
  refine D.uk sc_is_list (fun i => gh0_ok) (fun _ => mo_F) (fun _ ds n Q E ⟨x, e, _⟩ => by rw [e]; rfl) (fun i f cdv A outer s F H Ev ds n Q E hC hr h => ?_)
  have nd := sc_is_list.nd
  have hu := hr.units
  obtain ⟨d, rfl, hd, q⟩ := h
  try dsimp only at q
  refine ⟨_, (us_one (us_ret (ue_isi2 .list .tuple (ue_var (i := 0)) z_isinstance z_list z_tuple))), ?_⟩
  cases d <;> first | exact q | cases hd
def sp_is_tuple_of : SpD := spF (fun (x : D × Int) => [x.1, .int x.2]) (fun x => fine x.1 = true) fun x => .bl (tupN x.2 x.1)
theorem ok_is_tuple_of (D : Def K mg "is_tuple_of" s_is_tuple_of ["thing", "many"])
    (z_isinstance : mg "isinstance" = none)
    (z_len : mg "len" = none)
    (z_tuple : mg "tuple" = none)
     :
    CalG P w K mg base CX0 1 "is_tuple_of" ["thing", "many"] (fun _ : Unit => gh0) (fun _ => sp_is_tuple_of) := by
  refine D.uk sc_is_tuple_of (fun i => gh0_ok) (fun _ => mo_F) (fun _ ds n Q E ⟨x, e, _⟩ => by rw [e]; rfl) (fun i f cdv A outer s F H Ev ds n Q E hC hr h => ?_)
  have nd := sc_is_tuple_of.nd
  have hu := hr.units
  obtain ⟨⟨d, m⟩, rfl, hd, q⟩ := h
  try dsimp only at q
  refine ⟨_, (us_one (us_ret (ue_and (ue_isi .tuple (ue_var (i := 0)) z_isinstance z_tuple) (ue_one (ue_cmp (opd_eqA hu) (ue_callB cd_len z_len (ua_cons (ue_var (i := 0)) ua_nil)) (ue_var (i := 1))))))), ?_⟩
  cases d <;> first | exact q | cases hd
def sp_is_pair : SpD := spF (fun d => [d]) (fun d => fine d = true) fun d => .bl (isPair d)
theorem ok_is_pair (D : Def K mg "is_pair" s_is_pair ["thing"])
    (c_is_number : CalG P w K mg base CX0 1 "is_number" ["thing"] (fun _ : Unit => gh0) (fun _ => sp_is_number))
    (c_is_tuple_of : CalG P w K mg base CX0 1 "is_tuple_of" ["thing", "many"] (fun _ : Unit => gh0) (fun _ => sp_is_tuple_of))
     :
    CalG P w K mg base CX0 2 "is_pair" ["thing"] (fun _ : Unit => gh0) (fun _ => sp_is_pair) := by
  refine D.uk sc_is_pair (fun i => gh0_ok) (fun _ => mo_F) (fun _ ds n Q E ⟨x, e, _⟩ => by rw [e]; rfl) (fun i f cdv A outer s F H Ev ds n Q E hC hr h => ?_)
  have nd := sc_is_pair.nd
  have hu := hr.units
  obtain ⟨d, rfl, hd, q⟩ := h
  try dsimp only at q
  refine ⟨_, (us_one (us_ret (ue_and (uc_p c_is_tuple_of hr pass0 (ua_cons (ue_var (i := 0)) (ua_cons ue_int ua_nil))) (ue_and (uc_p c_is_number hr pass0 (ua_cons (ue_ix (ue_var (i := 0)) ue_int) ua_nil)) (ue_one (uc_p c_is_number hr pass0 (ua_cons (ue_ix (ue_var (i := 0)) ue_int) ua_nil))))))), ?_⟩
  refine ⟨(d, 2), rfl, hd, ?_⟩
  cases d with
  | tup xs =>
    have ha := (fine_tup hd).2
    refine ite_b (fun e => ?_) fun e => ?_
    · match xs, e with
      | [x, y], _ =>
        refine ix_t0 (x := x) (r := [y]) ?_
        refine ⟨x, rfl, ha x (by simp), ite_b (fun e1 => ?_) fun e1 => ?_⟩
        · refine ix_t1 (w := x) (x := y) (r := []) ?_
          refine ⟨y, rfl, ha y (by simp), ?_⟩
          simp only [isPair, e1, Bool.true_and] at q
          exact q
        · simp only [isPair, e1, Bool.false_and] at q
          exact q
    · have : isPair (.tup xs) = false := by
        match xs, e with
        | [], _ => rfl
        | [_], _ => rfl
        | [_, _], e => cases e
        | _ :: _ :: _ :: _, _ => rfl
      rw [this] at q
      exact q
  | _ => first | exact q | cases hd
def sp_is_word : SpD := spF (fun d => [d]) (fun d => fine d = true) fun d => .bl (isWord d)
theorem ok_is_word (D : Def K mg "is_word" s_is_word ["thing"])
    (z_isinstance : mg "isinstance" = none)
    (z_tuple : mg "tuple" = none)
    (c_is_letter : CalG P w K mg base CX0 2 "is_letter" ["thing"] (fun _ : Unit => gh0) (fun _ => sp_is_letter))
     :
    CalG P w K mg base CX0 3 "is_word" ["thing"] (fun _ : Unit => gh0) (fun _ => sp_is_word) := by
  refine D.uk sc_is_word (fun i => gh0_ok) (fun _ => mo_F) (fun _ ds n Q E ⟨x, e, _⟩ => by rw [e]; rfl) (fun i f cdv A outer s F H Ev ds n Q E hC hr h => ?_)
  have nd := sc_is_word.nd
  have hu := hr.units
  obtain ⟨d, rfl, hd, q⟩ := h
  try dsimp only at q
  refine ⟨_, (us_cons (us_if (ut_not (ut_val (ue_isi .tuple (ue_var (i := 0)) z_isinstance z_tuple))) (us_one (us_ret ue_bl)) us_nil)
      (us_cons (us_for (ui_row (ue_var (i := 0))) (ug_name (i := 1) nd)
      (us_one (us_if (ut_not (ut_val (uc_p c_is_letter hr pass0 (ua_cons (ue_var (i := 1)) ua_nil)))) (us_one (us_ret ue_bl)) us_nil)))
      (us_one (us_ret ue_bl)))), ?_⟩
  cases d with
  | tup xs =>
    have ha := (fine_tup hd).2
    refine ⟨fun i ρ k => k = n ∧ (∃ y, ρ = [.d (.tup xs), y]) ∧ (xs.take i).all isLet = true, ⟨rfl, ⟨_, rfl⟩, by simp⟩, fun i x ρ k hx hp => ?_, fun ρ k hp => ?_⟩
    · obtain ⟨rfl, ⟨y, rfl⟩, hp⟩ := hp
      refine ⟨x, rfl, ha x (List.mem_of_getElem? hx), ite_b (fun e => ?_) fun e => ?_⟩
      · have : isWord (.tup xs) = false := all_not hx (by simpa using e)
        rw [this] at q
        exact q
      · exact ⟨rfl, ⟨_, rfl⟩, all_take hx hp (by simpa using e)⟩
    · obtain ⟨rfl, ⟨y, rfl⟩, hp⟩ := hp
      rw [List.take_length] at hp
      have : isWord (.tup xs) = true := hp
      rw [this] at q
      exact q
  | _ => first | exact q | cases hd
def sp_check_letters (B : Addr) : SpD := spX (fun d => [d]) (fun d => fine d = true) fun d => if isWord d = true then .ok .non else .er B [] []
theorem ok_check_letters {B : Addr} (D : Def K mg "check_letters" s_check_letters ["word"])
    (c_is_word : CalG P w K mg base CX0 3 "is_word" ["thing"] (fun _ : Unit => gh0) (fun _ => sp_is_word))
    (e_BadWord : ErrC K mg "BadWord" B)
     :
    CalG P w K mg base (L2.CX P w) 4 "check_letters" ["word"] (fun _ : Unit => gh0) (fun _ => (sp_check_letters B)) := by
  refine D.ukX sc_check_letters (fun i => gh0_ok) (fun _ => mo_X) (fun _ ds n Q E ⟨x, e, _⟩ => by rw [e]; rfl) (fun i f cdv A outer s F H Ev ds n Q E hC hr h xo => ?_)
  have nd := sc_check_letters.nd
  have hu := hr.units
  have tk : Takes (cxOf (L2.CX P w) P w K mg base ["word"] "check_letters" (defScope s_check_letters) f cdv A outer s H Ev) fun cls d _ H => Ev cls d H := takes_of rfl rfl rfl rfl
  obtain ⟨d, rfl, hd, q⟩ := h
  try dsimp only at q
  refine ⟨_, (us_one (us_if (ut_not (ut_val (uc_p c_is_word hr pass0 (ua_cons (ue_var (i := 0)) ua_nil)))) (us_one (us_raise0 xo tk e_BadWord)) us_nil)), ?_⟩
  refine ⟨d, rfl, hd, ite_b (fun e => ?_) fun e => ?_⟩
  · have : isWord d = false := by simpa using e
    rw [this] at q
    exact q
  · have : isWord d = true := by simpa using e
    rw [this] at q
    exact q
abbrev sp_l_take : Addr × Addr × Addr → SpD := aTake
end
end L56
set_option maxHeartbeats 2000000
namespace L56
open PySem PySem.Spec PyProof.Rows L2 HG PU LamX
section
variable {P : Program} {w : World} {K : PySem.W.Frag} {mg : Str → Option Value} {base : Heap}
/-- one break behind ahead -/
def brkD (ahead len : Nat) : D → Option (Nat × List D)
  | .tup [.int g, .tup u] => if (ahead : Int) ≤ g ∧ g ≤ len ∧ u.all isLet = true then some (g.toNat, u) else none
  | _ => none
def putD (w : List D) : List D → Nat → Nat → List D → Except Nat (List D)
  | told, ahead, _, [] => .ok (told ++ w.drop ahead)
  | told, ahead, i, it :: r => match brkD ahead w.length it with
    | some (g, u) => putD w (told ++ ((w.drop ahead).take (g - ahead) ++ u)) g (i + 1) r
    | none => .error i
def rowOf : D → Option (List D)
  | .lst xs => some xs
  | .tup xs => some xs
  | _ => none
def wordOf : D → List D
  | .tup xs => xs
  | _ => []
def putK (CB : Addr) : Except Nat (List D) → Res
  | .ok r => .ok (.tup r)
  | .error i => .er CB ["at"] [.int (i : Nat)]
def putRes (B CB : Addr) (w bs : D) : Res := if isWord w = true then (match rowOf bs with
  | some its => putK CB (putD (wordOf w) [] 0 0 its)
  | none => .er CB ["at"] [.non]) else .er B [] []
def sp_put_in (B CB : Addr) : SpD := spX (fun (x : D × D) => [x.1, x.2]) (fun x => fine x.1 = true ∧ fine x.2 = true) fun x => putRes B CB x.1 x.2
theorem rowOf_row {d : D} (h : fine d = true) : (isRow d = false ∧ rowOf d = none) ∨ ∃ xs, isRow d = true ∧ rowOf d = some xs ∧ xs.length < 1000 ∧ (∀ x ∈ xs, fine x = true) ∧ (d = .lst xs ∨ d = .tup xs) := by
  cases d with
  | lst xs => exact .inr ⟨xs, rfl, rfl, (fine_lst h).1, (fine_lst h).2, .inl rfl⟩
  | tup xs => exact .inr ⟨xs, rfl, rfl, (fine_tup h).1, (fine_tup h).2, .inr rfl⟩
  | _ => exact .inl ⟨rfl, rfl⟩
theorem isWord_tup {d : D} (h : isWord d = true) : ∃ xs, d = .tup xs ∧ xs.all isLet = true := by
  cases d with
  | tup xs => exact ⟨xs, rfl, h⟩
  | _ => cases h
/-- what the loop of put_in asks of an item -/
theorem brkD_cases (ahead len : Nat) (it : D) : (tupN 2 it = false ∧ brkD ahead len it = none) ∨ ∃ a b, it = .tup [a, b] ∧
    ((numIn ahead len a = false ∧ brkD ahead len it = none) ∨ ∃ g : Nat, a = .int g ∧ ahead ≤ g ∧ g ≤ len ∧ ((isWord b = false ∧ brkD ahead len it = none) ∨ ∃ u, b = .tup u ∧ isWord b = true ∧ brkD ahead len it = some (g, u))) := by
  cases it with
  | tup xs =>
    match xs with
    | [] => exact .inl ⟨rfl, rfl⟩
    | [_] => exact .inl ⟨by simp [tupN], by unfold brkD; split <;> simp_all⟩
    | _ :: _ :: _ :: _ => exact .inl ⟨by simp [tupN]; omega, by unfold brkD; split <;> simp_all⟩
    | [a, b] =>
      refine .inr ⟨a, b, rfl, ?_⟩
      cases a with
      | int g =>
        by_cases h : (ahead : Int) ≤ g ∧ g ≤ len
        · refine .inr ⟨g.toNat, by rw [Int.toNat_of_nonneg (by omega)], by omega, by omega, ?_⟩
          cases b with
          | tup u =>
            by_cases hu : u.all isLet = true
            · exact .inr ⟨u, rfl, hu, by simp only [brkD]; rw [if_pos ⟨h.1, h.2, hu⟩]⟩
            · exact .inl ⟨by simpa [isWord] using hu, by simp only [brkD]; rw [if_neg (fun z => hu z.2.2)]⟩
          | _ => exact .inl ⟨rfl, rfl⟩
        · refine .inl ⟨?_, ?_⟩
          · simp only [numIn]
            by_cases h1 : (ahead : Int) ≤ g
            · have h2 : ¬ g ≤ len := fun z => h ⟨h1, z⟩
              simp [h1, h2]
            · simp [h1]
          · cases b with
            | tup u => simp only [brkD]; rw [if_neg (fun z => h ⟨z.1, z.2.1⟩)]
            | _ => rfl
      | _ => exact .inl ⟨rfl, rfl⟩
  | _ => exact .inl ⟨rfl, rfl⟩
theorem ok_put_in {B CB : Addr} (D : Def K mg "put_in" s_put_in ["word", "breaks"])
    (z_enumerate : mg "enumerate" = none)
    (z_len : mg "len" = none)
    (c_check_letters : CalG P w K mg base (L2.CX P w) 6 "check_letters" ["word"] (fun _ : Unit => gh0) (fun _ => (sp_check_letters B)))
    (c_is_list : CalG P w K mg base CX0 1 "is_list" ["thing"] (fun _ : Unit => gh0) (fun _ => sp_is_list))
    (c_is_number_from : CalG P w K mg base CX0 2 "is_number_from" ["thing", "low", "high"] (fun _ : Unit => gh0) (fun _ => sp_is_number_from))
    (c_is_tuple_of : CalG P w K mg base CX0 1 "is_tuple_of" ["thing", "many"] (fun _ : Unit => gh0) (fun _ => sp_is_tuple_of))
    (c_is_word : CalG P w K mg base CX0 3 "is_word" ["thing"] (fun _ : Unit => gh0) (fun _ => sp_is_word))
    (e_BadBreaks : ErrS P w K mg base "BadBreaks" "at" "at" CB)
     :
    CalG P w K mg base (L2.CX P w) 7 "put_in" ["word", "breaks"] (fun _ : Unit => gh0) (fun _ => (sp_put_in B CB)) := by
  refine D.ukX sc_put_in (fun i => gh0_ok) (fun _ => mo_X) (fun _ ds n Q E ⟨x, e, _⟩ => by rw [e]; rfl) (fun i f cdv A outer s F H Ev ds n Q E hC hr h xo => ?_)
  have nd := sc_put_in.nd
  have hu := hr.units
  have tk : Takes (cxOf (L2.CX P w) P w K mg base ["word", "breaks", "told", "ahead", "at", "item"] "put_in" (defScope s_put_in) f cdv A outer s H Ev) fun cls d _ H => Ev cls d H := takes_of rfl rfl rfl rfl
  obtain ⟨⟨wd, bs⟩, rfl, ⟨hw, hb⟩, q⟩ := h
  try dsimp only at q
  refine ⟨_, (us_cons (us_expr (uc_pX xo c_check_letters hr passE (ua_cons (ue_var (i := 0)) ua_nil)))
      (us_cons (us_if (ut_not (ut_val (uc_p c_is_list hr pass0 (ua_cons (ue_var (i := 1)) ua_nil)))) (us_one (us_raiseS xo tk e_BadBreaks (hr.mono (by decide)) ue_non)) us_nil)
      (us_cons (us_set (i := 2) (ue_tup ua_nil) nd)
      (us_cons (us_set (i := 3) ue_int nd)
      (us_cons (us_for (ui_enumV (i := 1) z_enumerate) (ug_tup (ug_cons (ug_name (i := 4) nd) (ug_cons (ug_name (i := 5) nd) ug_nil)))
      (us_cons (us_if (UW.ut (uw_or (ut_not (ut_val (uc_p c_is_tuple_of hr pass0 (ua_cons (ue_var (i := 5)) (ua_cons ue_int ua_nil))))) (uw_or (ut_not (ut_val (uc_p c_is_number_from hr pass0 (ua_cons (ue_ix (ue_var (i := 5)) ue_int) (ua_cons (ue_var (i := 3)) (ua_cons (ue_callB cd_len z_len (ua_cons (ue_var (i := 0)) ua_nil)) ua_nil)))))) (uw_or1 (ut_not (ut_val (uc_p c_is_word hr pass0 (ua_cons (ue_ix (ue_var (i := 5)) ue_int) ua_nil)))))))) (us_one (us_raiseS xo tk e_BadBreaks (hr.mono (by decide)) (ue_var (i := 4)))) us_nil)
      (us_cons (us_aug (i := 2) ipd_add (ue_op opd_plus (ue_slice (ue_var (i := 0)) (uo_some (ue_var (i := 3))) (uo_some (ue_ix (ue_var (i := 5)) ue_int))) (ue_ix (ue_var (i := 5)) ue_int)) nd)
      (us_one (us_set (i := 3) (ue_ix (ue_var (i := 5)) ue_int) nd)))) (hp := passes_of rfl))
      (us_one (us_ret (ue_op opd_plus (ue_var (i := 2)) (ue_slice (ue_var (i := 0)) (uo_some (ue_var (i := 3))) uo_none))))))))), ?_⟩
  refine ⟨wd, rfl, hw, ?_⟩
  dsimp only
  unfold putRes at q
  by_cases hW : isWord wd = true
  · rw [if_pos hW] at q ⊢
    refine ⟨bs, rfl, hb, ?_⟩
    dsimp only
    rcases rowOf_row hb with ⟨r1, r2⟩ | ⟨its, r1, r2, r3, r4, r5⟩
    · rw [r1]
      rw [r2] at q
      exact q
    · rw [r1]
      rw [r2] at q
      obtain ⟨ws, rfl, hL⟩ := isWord_tup hW
      obtain ⟨w1, w2⟩ := fine_tup hw
      dsimp only [wordOf] at q
      refine ⟨by show 0 ≤ sizeLine; decide, ?_⟩
      have sz : sizeLine = 16777216 := sizeLine_eq
      rcases r5 with rfl | rfl
      all_goals
        refine ⟨fun i ρ k => k = n ∧ ∃ (told : List PU.D) (ahead : Nat) (y z : S), ρ = [.d (.tup ws), gt ρ 1, .d (.tup told), .d (.int ahead), y, z] ∧ ahead ≤ ws.length ∧ told.length ≤ ahead + 1000 * i ∧ (putK CB (putD ws told ahead i (its.drop i))).put n Q E, ⟨rfl, [], 0, .u, .u, rfl, Nat.zero_le _, by simp, q⟩, fun i x ρ k hx hp => ?_, fun ρ k hp => ?_⟩
        · obtain ⟨rfl, told, ahead, y, z, e, h1, h2, h3⟩ := hp
          obtain ⟨it, hi, rfl⟩ := en_get hx
          have il : i < its.length := (List.getElem?_eq_some_iff.mp hi).1
          have fi := r4 it (List.mem_of_getElem? hi)
          rw [List.drop_eq_getElem_cons il] at h3
          have hi' : its[i] = it := by rw [List.getElem?_eq_getElem il] at hi; exact Option.some.inj hi
          rw [hi'] at h3
          rw [e]
          generalize gt ρ 1 = s1 at e ⊢
          have bad : brkD ahead ws.length it = none → E CB ["at"] [.int i] k := fun z => by
            simp only [putD, z] at h3
            exact h3
          refine ⟨rfl, (it, 2), rfl, fi, ite_b (fun e1 => ?_) fun e1 => ?_⟩
          · rcases brkD_cases ahead ws.length it with ⟨_, z⟩ | ⟨a, b, rfl, _⟩
            · exact bad z
            · cases e1
          rcases brkD_cases ahead ws.length it with ⟨z, _⟩ | ⟨a, b, rfl, hc⟩
          · rw [z] at e1
            cases e1
          obtain ⟨f1, f2⟩ := fine_tup fi
          refine ix_t0 (x := a) (r := [b]) ?_
          refine ⟨(a, ahead, ws.length), rfl, f2 a (by simp), ite_b (fun e2 => ?_) fun e2 => ?_⟩
          · rcases hc with ⟨_, z⟩ | ⟨g, rfl, g1, g2, _⟩
            · exact bad z
            · exfalso
              have e2 : (!numIn ahead ws.length (.int g)) = true := e2
              simp only [numIn] at e2
              rw [decide_eq_true (by omega : (ahead : Int) ≤ g), decide_eq_true (by omega : (g : Int) ≤ ws.length)] at e2
              cases e2
          rcases hc with ⟨z, _⟩ | ⟨g, rfl, g1, g2, hc⟩
          · have e2 : (!numIn ahead ws.length a) = false := e2
            rw [z] at e2
            cases e2
          refine ix_t1 (w := .int g) (x := b) (r := []) ?_
          refine ⟨b, rfl, f2 b (by simp), ite_b (fun e3 => ?_) fun e3 => ?_⟩
          · rcases hc with ⟨_, z⟩ | ⟨u, rfl, z, _⟩
            · exact bad z
            · rw [z] at e3
              cases e3
          rcases hc with ⟨z, _⟩ | ⟨u, rfl, _, hbr⟩
          · rw [z] at e3
            cases e3
          have ul := (fine_tup (f2 (.tup u) (by simp))).1
          simp only [putD, hbr] at h3
          refine ix_t0 (x := .int g) (r := [.tup u]) ?_
          refine ix_t1 (w := .int g) (x := .tup u) (r := []) ?_
          have lc : (cutD ws (some ahead) (some g)).length ≤ g - ahead := by rw [cut_mid' g1 g2, List.length_take]; omega
          refine ⟨by omega, ?_⟩
          refine ⟨by rw [List.length_append]; omega, ?_⟩
          refine ix_t0 (x := .int g) (r := [.tup u]) ?_
          refine ⟨rfl, told ++ (cutD ws (some ahead) (some g) ++ u), g, _, _, rfl, g2, ?_, ?_⟩
          · rw [List.length_append, List.length_append]
            omega
          · rw [cut_mid' g1 g2]
            exact h3
        · obtain ⟨rfl, told, ahead, y, z, e, h1, h2, h3⟩ := hp
          rw [e]
          rw [en_len, List.drop_length] at h3
          show told.length + (cutD ws (some ahead) none).length ≤ sizeLine ∧ Q (.tup (told ++ cutD ws (some ahead) none)) k
          rw [cut_from' h1]
          rw [en_len] at h2
          exact ⟨by rw [List.length_drop]; omega, h3⟩
  · rw [if_neg hW] at q ⊢
    exact q
end
end L56
set_option maxHeartbeats 2000000
namespace L56
open PySem PySem.Spec PyProof.Rows L2 HG PU LamX
section
variable {P : Program} {w : World} {K : PySem.W.Frag} {mg : Str → Option Value} {base : Heap}
def pieD (ahead len : Nat) : D → Option (Nat × Nat)
  | .tup [.int s, .int z] => if (ahead : Int) ≤ s ∧ 0 ≤ z ∧ s + z ≤ len then some (s.toNat, z.toNat) else none
  | _ => none
def takeD (w : List D) : List D → List D → Nat → Nat → List D → Except Nat (List D × List D)
  | rest, brs, ahead, _, [] => .ok (rest ++ w.drop ahead, brs)
  | rest, brs, ahead, i, it :: r => match pieD ahead w.length it with
    | some (s, z) => takeD w (rest ++ (w.drop ahead).take (s - ahead)) (brs ++ [.tup [.int ((rest ++ (w.drop ahead).take (s - ahead)).length : Nat), .tup ((w.drop s).take z)]]) (s + z) (i + 1) r
    | none => .error i
def takeK (CP : Addr) : Except Nat (List D × List D) → Res
  | .ok r => .ok (.tup [.tup r.1, .lst r.2])
  | .error i => .er CP ["at"] [.int (i : Nat)]
def takeRes (B CP : Addr) (w bs : D) : Res := if isWord w = true then (match rowOf bs with
  | some its => takeK CP (takeD (wordOf w) [] [] 0 0 its)
  | none => .er CP ["at"] [.non]) else .er B [] []
def sp_taken_out (B CP : Addr) : SpD := spX (fun (x : D × D) => [x.1, x.2]) (fun x => fine x.1 = true ∧ fine x.2 = true) fun x => takeRes B CP x.1 x.2
theorem pieD_cases (ahead len : Nat) (it : D) : (isPair it = false ∧ pieD ahead len it = none) ∨ ∃ s z : Int, it = .tup [.int s, .int z] ∧ isPair it = true ∧
    ((¬ ((ahead : Int) ≤ s ∧ 0 ≤ z ∧ s + z ≤ len) ∧ pieD ahead len it = none) ∨ ∃ s' z' : Nat, s = s' ∧ z = z' ∧ ahead ≤ s' ∧ s' + z' ≤ len ∧ pieD ahead len it = some (s', z')) := by
  cases it with
  | tup xs =>
    match xs with
    | [] => exact .inl ⟨rfl, rfl⟩
    | [_] => exact .inl ⟨rfl, by unfold pieD; split <;> simp_all⟩
    | _ :: _ :: _ :: _ => exact .inl ⟨rfl, by unfold pieD; split <;> simp_all⟩
    | [a, b] =>
      cases a with
      | int s =>
        cases b with
        | int z =>
          refine .inr ⟨s, z, rfl, rfl, ?_⟩
          by_cases h : (ahead : Int) ≤ s ∧ 0 ≤ z ∧ s + z ≤ len
          · exact .inr ⟨s.toNat, z.toNat, (Int.toNat_of_nonneg (by omega)).symm, (Int.toNat_of_nonneg (by omega)).symm, by omega, by omega, by simp only [pieD]; rw [if_pos h]⟩
          · exact .inl ⟨h, by simp only [pieD]; rw [if_neg h]⟩
        | _ => exact .inl ⟨rfl, rfl⟩
      | _ => exact .inl ⟨rfl, rfl⟩
  | _ => exact .inl ⟨rfl, rfl⟩
theorem ok_taken_out {B CP : Addr} (D : Def K mg "taken_out" s_taken_out ["word", "pieces"])
    (z_enumerate : mg "enumerate" = none)
    (z_len : mg "len" = none)
    (c_check_letters : CalG P w K mg base (L2.CX P w) 6 "check_letters" ["word"] (fun _ : Unit => gh0) (fun _ => (sp_check_letters B)))
    (c_is_list : CalG P w K mg base CX0 1 "is_list" ["thing"] (fun _ : Unit => gh0) (fun _ => sp_is_list))
    (c_is_pair : CalG P w K mg base CX0 2 "is_pair" ["thing"] (fun _ : Unit => gh0) (fun _ => sp_is_pair))
    (e_BadPieces : ErrS P w K mg base "BadPieces" "at" "at" CP)
     :
    CalG P w K mg base (L2.CX P w) 7 "taken_out" ["word", "pieces"] (fun _ : Unit => gh0) (fun _ => (sp_taken_out B CP)) := by
  refine D.ukX sc_taken_out (fun i => gh0_ok) (fun _ => mo_X) (fun _ ds n Q E ⟨x, e, _⟩ => by rw [e]; rfl) (fun i f cdv A outer s F H Ev ds n Q E hC hr h xo => ?_)
  have nd := sc_taken_out.nd
  have hu := hr.units
  have tk : Takes (cxOf (L2.CX P w) P w K mg base ["word", "pieces", "rest", "breaks", "ahead", "at", "piece"] "taken_out" (defScope s_taken_out) f cdv A outer s H Ev) fun cls d _ H => Ev cls d H := takes_of rfl rfl rfl rfl
  obtain ⟨⟨wd, bs⟩, rfl, ⟨hw, hb⟩, q⟩ := h
  try dsimp only at q
  refine ⟨_, (us_cons (us_expr (uc_pX xo c_check_letters hr passE (ua_cons (ue_var (i := 0)) ua_nil)))
      (us_cons (us_if (ut_not (ut_val (uc_p c_is_list hr pass0 (ua_cons (ue_var (i := 1)) ua_nil)))) (us_one (us_raiseS xo tk e_BadPieces (hr.mono (by decide)) ue_non)) us_nil)
      (us_cons (us_set (i := 2) (ue_tup ua_nil) nd)
      (us_cons (us_setO (i := 3) hC (ul_lst ua_nil) nd)
      (us_cons (us_set (i := 4) ue_int nd)
      (us_cons (us_for (ui_enumV (i := 1) z_enumerate) (ug_tup (ug_cons (ug_name (i := 5) nd) (ug_cons (ug_name (i := 6) nd) ug_nil)))
      (us_cons (us_if (UW.ut (uw_or (ut_not (ut_val (uc_p c_is_pair hr pass0 (ua_cons (ue_var (i := 6)) ua_nil)))) (uw_or (ut_cmp opd_lt (ue_ix (ue_var (i := 6)) ue_int) (ue_var (i := 4))) (uw_or (ut_cmp opd_lt (ue_ix (ue_var (i := 6)) ue_int) ue_int) (uw_or1 (ut_cmp opd_gt (ue_op opd_plus (ue_ix (ue_var (i := 6)) ue_int) (ue_ix (ue_var (i := 6)) ue_int)) (ue_callB cd_len z_len (ua_cons (ue_var (i := 0)) ua_nil)))))))) (us_one (us_raiseS xo tk e_BadPieces (hr.mono (by decide)) (ue_var (i := 5)))) us_nil)
      (us_cons (us_aug (i := 2) ipd_add (ue_slice (ue_var (i := 0)) (uo_some (ue_var (i := 4))) (uo_some (ue_ix (ue_var (i := 6)) ue_int))) nd)
      (us_cons (us_set (i := 4) (ue_op opd_plus (ue_ix (ue_var (i := 6)) ue_int) (ue_ix (ue_var (i := 6)) ue_int)) nd)
      (us_one (us_app (i := 3) (ue_tup (ua_cons (ue_callB cd_len z_len (ua_cons (ue_var (i := 2)) ua_nil)) (ua_cons (ue_slice (ue_var (i := 0)) (uo_some (ue_ix (ue_var (i := 6)) ue_int)) (uo_some (ue_var (i := 4)))) ua_nil)))))))) (hp := passes_of rfl))
      (us_one (us_frz 3 (us_ret (ue_tup (ua_cons (ue_op opd_plus (ue_var (i := 2)) (ue_slice (ue_var (i := 0)) (uo_some (ue_var (i := 4))) uo_none)) (ua_cons (ue_var (i := 3)) ua_nil)))))))))))), ?_⟩
  refine ⟨wd, rfl, hw, ?_⟩
  dsimp only
  unfold takeRes at q
  by_cases hW : isWord wd = true
  · rw [if_pos hW] at q ⊢
    refine ⟨bs, rfl, hb, ?_⟩
    dsimp only
    rcases rowOf_row hb with ⟨r1, r2⟩ | ⟨its, r1, r2, r3, r4, r5⟩
    · rw [r1]
      rw [r2] at q
      exact q
    · rw [r1]
      rw [r2] at q
      obtain ⟨ws, rfl, hL⟩ := isWord_tup hW
      obtain ⟨w1, w2⟩ := fine_tup hw
      dsimp only [wordOf] at q
      have sz : sizeLine = 16777216 := sizeLine_eq
      refine ⟨by show 0 ≤ sizeLine; decide, by show 0 ≤ sizeLine; decide, fun al => ?_⟩
      rcases r5 with rfl | rfl
      all_goals
        refine ⟨fun i ρ k => k = n ∧ ∃ (rest brs : List PU.D) (ahead : Nat) (y z : S), ρ = [.d (.tup ws), gt ρ 1, .d (.tup rest), .o al brs, .d (.int ahead), y, z] ∧ ahead ≤ ws.length ∧ rest.length ≤ ahead ∧ brs.length ≤ i ∧ (takeK CP (takeD ws rest brs ahead i (its.drop i))).put n Q E, ⟨rfl, [], [], 0, .u, .u, rfl, Nat.zero_le _, by simp, by simp, q⟩, fun i x ρ k hx hp => ?_, fun ρ k hp => ?_⟩
        · obtain ⟨rfl, rest, brs, ahead, y, z, e, h1, h2, h3, h4⟩ := hp
          obtain ⟨it, hi, rfl⟩ := en_get hx
          have il : i < its.length := (List.getElem?_eq_some_iff.mp hi).1
          have fi := r4 it (List.mem_of_getElem? hi)
          rw [List.drop_eq_getElem_cons il] at h4
          have hi' : its[i] = it := by rw [List.getElem?_eq_getElem il] at hi; exact Option.some.inj hi
          rw [hi'] at h4
          rw [e]
          generalize gt ρ 1 = s1 at e ⊢
          have bad : pieD ahead ws.length it = none → E CP ["at"] [.int i] k := fun z => by
            simp only [takeD, z] at h4
            exact h4
          refine ⟨rfl, it, rfl, fi, ite_b (fun e1 => ?_) fun e1 => ?_⟩
          · rcases pieD_cases ahead ws.length it with ⟨_, z⟩ | ⟨a, b, rfl, e2, _⟩
            · exact bad z
            · rw [e2] at e1
              cases e1
          rcases pieD_cases ahead ws.length it with ⟨z, _⟩ | ⟨s, z, rfl, _, hc⟩
          · rw [z] at e1
            cases e1
          refine ix_t0 (x := .int s) (r := [.int z]) ?_
          refine ite_b (fun e2 => ?_) fun e2 => ?_
          · rcases hc with ⟨_, z⟩ | ⟨s', z', rfl, rfl, g1, g2, _⟩
            · exact bad z
            · exfalso
              have e2 := of_decide_eq_true e2
              omega
          have e2 := of_decide_eq_false e2
          refine ix_t1 (w := .int s) (x := .int z) (r := []) ?_
          refine ite_b (fun e3 => ?_) fun e3 => ?_
          · rcases hc with ⟨_, z⟩ | ⟨s', z', rfl, rfl, g1, g2, _⟩
            · exact bad z
            · exfalso
              have e3 := of_decide_eq_true e3
              omega
          have e3 := of_decide_eq_false e3
          refine ix_t0 (x := .int s) (r := [.int z]) ?_
          refine ix_t1 (w := .int s) (x := .int z) (r := []) ?_
          refine ite_b (fun e4 => ?_) fun e4 => ?_
          · rcases hc with ⟨_, z⟩ | ⟨s', z', rfl, rfl, g1, g2, _⟩
            · exact bad z
            · exfalso
              have e4 := of_decide_eq_true e4
              omega
          have e4 := of_decide_eq_false e4
          rcases hc with ⟨z, _⟩ | ⟨s', z', rfl, rfl, g1, g2, hpe⟩
          · exact absurd ⟨by omega, by omega, by omega⟩ z
          simp only [takeD, hpe] at h4
          refine ix_t0 (x := .int s') (r := [.int z']) ?_
          have lc : (cutD ws (some ahead) (some s')).length ≤ s' - ahead := by rw [cut_mid' g1 (by omega), List.length_take]; omega
          refine ⟨by omega, ?_⟩
          refine ix_t0 (x := .int s') (r := [.int z']) ?_
          refine ix_t1 (w := .int s') (x := .int z') (r := []) ?_
          refine ix_t0 (x := .int s') (r := [.int z']) ?_
          refine ⟨by show 2 ≤ sizeLine; decide, by omega, rfl, rest ++ cutD ws (some ahead) (some s'), _, s' + z', _, _, rfl, g2, ?_, ?_, ?_⟩
          · rw [List.length_append]
            omega
          · rw [List.length_append]
            simp only [List.length_singleton]
            omega
          · have c2 : cutD ws (some (s' : Int)) (some ((s' : Int) + z')) = (ws.drop s').take z' := by
              have := cut_mid' (xs := ws) (a := s') (b := s' + z') (by omega) g2
              rw [Nat.add_sub_cancel_left, Int.natCast_add] at this
              exact this
            rw [c2, cut_mid' g1 (by omega)]
            exact h4
        · obtain ⟨rfl, rest, brs, ahead, y, z, e, h1, h2, h3, h4⟩ := hp
          rw [e]
          rw [en_len, List.drop_length] at h4
          show rest.length + (cutD ws (some ahead) none).length ≤ sizeLine ∧ 2 ≤ sizeLine ∧ Q (.tup [.tup (rest ++ cutD ws (some ahead) none), .lst brs]) k
          rw [cut_from' h1]
          exact ⟨by rw [List.length_drop]; omega, by decide, h4⟩
  · rw [if_neg hW] at q ⊢
    exact q
end
end L56
set_option maxHeartbeats 2000000
namespace PU
open PySem PySem.Spec L2 HG
def one (c : Nat) : Str := ⟨#[c]⟩
theorem join_one (cs : List Nat) : Txt.join (Str.ofString "") (cs.map one) = ⟨cs.toArray⟩ := by
  have e : cs.map one = PyProof.Rows.signs ⟨cs.toArray⟩ := by
    unfold PyProof.Rows.signs
    rw [List.toList_toArray]
    rfl
  have z : Str.ofString "" = ⟨#[]⟩ := by decide +kernel
  rw [TL.join_eq, z, e]
  exact PyProof.Rows.join_nil_signs _
theorem pig4 {a b c d : Str} (ab : a ≠ b) (ac : a ≠ c) (ad : a ≠ d) (bc : b ≠ c) (bd : b ≠ d) (cd : c ≠ d) {l : List Str} (len : l.length ≤ 3) (ha : a ∈ l) (hb : b ∈ l) (hc : c ∈ l) (hd : d ∈ l) : False := by
  have e1 := List.length_erase_of_mem ha
  have b1 : b ∈ l.erase a := (List.mem_erase_of_ne ab.symm).mpr hb
  have c1 : c ∈ l.erase a := (List.mem_erase_of_ne ac.symm).mpr hc
  have d1 : d ∈ l.erase a := (List.mem_erase_of_ne ad.symm).mpr hd
  have e2 := List.length_erase_of_mem b1
  have c2 : c ∈ (l.erase a).erase b := (List.mem_erase_of_ne bc.symm).mpr c1
  have d2 : d ∈ (l.erase a).erase b := (List.mem_erase_of_ne bd.symm).mpr d1
  have e3 := List.length_erase_of_mem c2
  have d3 : d ∈ ((l.erase a).erase b).erase c := (List.mem_erase_of_ne cd.symm).mpr d2
  have := List.length_pos_of_mem d3
  omega
theorem app_ne {x : Str} {c d : Nat} (h : c ≠ d) : x ++ one c ≠ x ++ one d := fun e => by
  have q : (x ++ one c).cps.toList = (x ++ one d).cps.toList := by rw [e]
  have e1 : ∀ k, (x ++ one k).cps.toList = x.cps.toList ++ [k] := fun k => by
    show (x.cps ++ #[k]).toList = _
    simp
  rw [e1, e1] at q
  have := List.append_cancel_left q
  cases this
  exact h rfl
theorem cut_11 (z : Str) : (cutS z none (some 11)).length ≤ 11 ∧ ∀ c ∈ (cutS z none (some 11)).cps.toList, c ∈ z.cps.toList := by
  have b : HT.sIx z.length z.length (some 11) ≤ 11 := by
    have q := HT.sIx_nat z.length z.length 11
    rw [show (((11 : Nat)) : Int) = 11 from rfl] at q
    rw [q]
    exact Nat.min_le_left _ _
  unfold cutS
  refine ⟨?_, fun c hc => ?_⟩
  · show (List.toArray _).size ≤ 11
    rw [List.size_toArray, List.length_take]
    omega
  · rw [List.toList_toArray] at hc
    exact List.mem_of_mem_drop (List.mem_of_mem_take hc)
def signs2 : Str := "abcdefghijklmnopqrstuvwxyzABCDEFGHIJKLMNOPQRSTUVWXYZ0123456789."
theorem signs_sub : ∀ c ∈ signs2.cps.toList, c ∈ signs.cps.toList := by decide +kernel
def near (z : Str) : List Str := z :: signs2.cps.toList.map fun c => cutS z none (some 11) ++ one c
theorem letS_of {z : Str} (h1 : 1 ≤ z.length) (h2 : z.length ≤ 12) (h3 : ∀ c ∈ z.cps.toList, c ∈ signs.cps.toList) : letS z = true := by
  unfold letS
  rw [decide_eq_true h1, decide_eq_true h2, Bool.true_and, Bool.true_and, List.all_eq_true]
  exact fun c hc => decide_eq_true (h3 c hc)
theorem letS_to {z : Str} (h : letS z = true) : 1 ≤ z.length ∧ z.length ≤ 12 ∧ ∀ c ∈ z.cps.toList, c ∈ signs.cps.toList := by
  unfold letS at h
  obtain ⟨h1, h3⟩ := Bool.and_eq_true_iff.mp h
  obtain ⟨h1, h2⟩ := Bool.and_eq_true_iff.mp h1
  exact ⟨of_decide_eq_true h1, of_decide_eq_true h2, fun c hc => of_decide_eq_true (List.all_eq_true.mp h3 c hc)⟩
theorem near_free {z : Str} {found : List Str} (len : found.length ≤ 3) : ∃ y r, (near z).filter (fun y => !decide (y ∈ found)) = y :: r := by
  cases e : (near z).filter (fun y => !decide (y ∈ found)) with
  | cons y r => exact ⟨y, r, rfl⟩
  | nil =>
    exfalso
    rw [List.filter_eq_nil_iff] at e
    have m : ∀ c ∈ signs2.cps.toList, cutS z none (some 11) ++ one c ∈ found := fun c hc => by
      have q := e _ (List.mem_cons_of_mem _ (List.mem_map.mpr ⟨c, hc, rfl⟩))
      simpa using q
    exact pig4 (app_ne (by decide)) (app_ne (by decide)) (app_ne (by decide)) (app_ne (by decide)) (app_ne (by decide)) (app_ne (by decide)) len
      (m 107 (by decide +kernel)) (m 81 (by decide +kernel)) (m 55 (by decide +kernel)) (m 46 (by decide +kernel))
theorem near_sign {z : Str} (h : letS z = true) : ∀ y ∈ near z, letS y = true := by
  intro y hy
  rcases List.mem_cons.mp hy with rfl | hy
  · exact h
  · obtain ⟨c, hc, rfl⟩ := List.mem_map.mp hy
    obtain ⟨l, m⟩ := cut_11 z
    obtain ⟨_, _, g⟩ := letS_to h
    have size : (cutS z none (some 11) ++ one c).length = (cutS z none (some 11)).length + 1 := by
      show (_ ++ #[c]).size = _
      rw [Array.size_append]
      rfl
    refine letS_of (by omega) (by omega) (fun x hx => ?_)
    have e : (cutS z none (some 11) ++ one c).cps.toList = (cutS z none (some 11)).cps.toList ++ [c] := by
      show (_ ++ #[c]).toList = _
      simp
    rw [e] at hx
    rcases List.mem_append.mp hx with q | q
    · exact g x (m x q)
    · rw [List.mem_singleton.mp q]
      exact signs_sub c hc
def labels : List Str := ["a", "b", "A", "x", "x.1", "read", "zzzzzzzzzzzz", "0", "1", "."]
theorem labels_ok : ∀ z ∈ labels, letS z = true := by decide +kernel
theorem labels_split : Txt.split (Str.ofString "a b A x x.1 read zzzzzzzzzzzz 0 1 .") (Str.ofString " ") = labels := by decide +kernel
end PU
set_option maxHeartbeats 2000000
namespace L56
open PySem PySem.Spec PyProof.Rows L2 HG PU LamX
section
variable {P : Program} {w : World} {K : PySem.W.Frag} {mg : Str → Option Value} {base : Heap}
def sp_l_pick (i : Addr × Addr × Addr) : SpD := spN (fun (x : D × List D) => [.ref i.1, x.1]) (fun x n => rowS x.1 x.2 ∧ 0 < x.2.length ∧ x.2.length < 1000 ∧ n < 1000000000) fun x n d m => d ∈ x.2 ∧ m = n + 1
theorem ok_l_pick (D : Def K mg "_law_pick" s_l_pick ["state", "some"])
    (z_len : mg "len" = none)
    (c__law_take : CalG P w K mg base CX0 2 "_law_take" ["state", "size"] gDraw sp_l_take)
     :
    CalG P w K mg base CX0 3 "_law_pick" ["state", "some"] gDraw sp_l_pick := by
  refine D.uk sc_l_pick (fun i => gDraw_ok i) (fun _ => mo_N) (fun _ ds n Q E ⟨x, e, _⟩ => by rw [e]; rfl) (fun i f cdv A outer s F H Ev ds n Q E hC hr h => ?_)
  have nd := sc_l_pick.nd
  have hu := hr.units
  have em : Emb (gDraw i) (cnOf (gDraw i) F H).toGh := Emb.rfl
  obtain ⟨⟨d, xs⟩, rfl, hp, q⟩ := h
  try dsimp only at q
  refine ⟨_, (us_one (us_ret (ue_ix (ue_var (i := 1)) (uc_e i em hC c__law_take hr pass0 (ua_cons (ue_var (i := 0)) (ua_cons (ue_callB cd_len z_len (ua_cons (ue_var (i := 1)) ua_nil)) ua_nil)))))), ?_⟩
  obtain ⟨h1, h2, h3, h4⟩ := hp
  dsimp only at h1 h2 h3
  have h1' := h1
  rcases h1' with rfl | rfl | ⟨z, rfl, hz, rfl⟩
  · exact ⟨xs.length, rfl, h4, by omega, by omega, fun r r0 r1 => ix_any h1 r0 r1 fun x m => q _ _ ⟨m, rfl⟩⟩
  · exact ⟨xs.length, rfl, h4, by omega, by omega, fun r r0 r1 => ix_any h1 r0 r1 fun x m => q _ _ ⟨m, rfl⟩⟩
  · rw [sgs_len] at h2 h3
    exact ⟨Nat.le_of_lt (Nat.lt_of_lt_of_le hz (by decide)), z.length, rfl, h4, by omega, by omega, fun r r0 r1 => ix_any h1 r0 (by rw [sgs_len]; exact r1) fun x m => q _ _ ⟨m, rfl⟩⟩
def sp_l_letters (i : Addr × Addr × Addr) : SpD := spN (fun (k : Nat) => [.ref i.1, .int k]) (fun k n => 1 ≤ k ∧ k ≤ 3 ∧ n < 999990000) fun k n d m => m ≤ n + 60 ∧ ∃ L : List Str, d = .lst (L.map .str) ∧ L.length = k ∧ ∀ z ∈ L, letS z = true
theorem draw_mono {n m : Nat} {i : Addr × Addr × Addr} {H : Hp} (h : (gDraw i).M n H) (l : n ≤ m) : (gDraw i).M m H := ⟨h.ne, by
  obtain ⟨gs, cs, left, turn, e1, e2, e3, e4, e5⟩ := h.ex
  exact ⟨gs, cs, left, turn, e1, e2, e3, e4, by omega⟩⟩
theorem inF_strs (z : Str) (L : List Str) : inF (.str z) (L.map .str) = decide (z ∈ L) := by
  unfold inF
  rw [List.any_map]
  induction L with
  | nil => simp
  | cons y r ih =>
    rw [List.any_cons, ih]
    show (y == z || _) = _
    by_cases q : z = y
    · subst q; simp
    · have : (y == z) = false := by simpa using fun e => q e.symm
      rw [this]; simp [q]
theorem flat_strsD (L : List Str) : (L.map D.str).all flat = true := by
  rw [List.all_map]
  exact List.all_eq_true.mpr fun _ _ => rfl
theorem filter_next {α : Type} {p : α → Bool} {l : List α} {e : Nat} {x : α} (h : l[e]? = some x) : (l.take (e + 1)).filter p = if p x = true then (l.take e).filter p ++ [x] else (l.take e).filter p := by
  rw [List.take_succ, h, List.filter_append]
  show _ ++ [x].filter p = _
  cases q : p x
  · rw [List.filter_cons_of_neg (by simp [q])]; simp
  · rw [List.filter_cons_of_pos q]; simp
theorem map_next {α β : Type} {f : α → β} {l : List α} {e : Nat} {x : α} (h : l[e]? = some x) : (l.take (e + 1)).map f = (l.take e).map f ++ [f x] := by
  rw [List.take_succ, h, List.map_append]
  rfl
theorem getmap {α β : Type} {f : α → β} {l : List α} {e : Nat} {x : β} (h : (l.map f)[e]? = some x) : ∃ y, l[e]? = some y ∧ x = f y := by
  rw [List.getElem?_map] at h
  cases q : l[e]? with
  | none => rw [q] at h; cases h
  | some y => rw [q] at h; cases h; exact ⟨y, rfl, rfl⟩
theorem ok_l_letters (D : Def K mg "_law_letters" s_l_letters ["state", "many"])
    (z_range : mg "range" = none)
    (z_sorted : mg "sorted" = none)
    (c__law_pick : CalG P w K mg base CX0 3 "_law_pick" ["state", "some"] gDraw sp_l_pick)
    (c__law_take : CalG P w K mg base CX0 2 "_law_take" ["state", "size"] gDraw sp_l_take)
     :
    CalG P w K mg base CX0 4 "_law_letters" ["state", "many"] gDraw sp_l_letters := by
  refine D.uk sc_l_letters (fun i => gDraw_ok i) (fun _ => mo_N) (fun _ ds n Q E ⟨x, e, _⟩ => by rw [e]; rfl) (fun i f cdv A outer s F H Ev ds n Q E hC hr h => ?_)
  have nd := sc_l_letters.nd
  have hu := hr.units
  have em : Emb (gDraw i) (cnOf (gDraw i) F H).toGh := Emb.rfl
  obtain ⟨many, rfl, ⟨h1, h2, h3⟩, q⟩ := h
  try dsimp only at q
  refine ⟨_, (us_cons (us_asgO (i := 2) (j := 3) hC ue_str (ul_lst ua_nil) nd)
      (us_cons (us_for (ui_range1 (ua_cons (ue_var (i := 1)) ua_nil) z_range) (ug_name (i := 4) nd)
      (us_cons (us_set (i := 5) (uc_e i em hC c__law_pick hr pass0 (ua_cons (ue_var (i := 0)) (ua_cons (UL.ue (ul_split ue_str ue_str)) ua_nil))) nd)
      (us_cons (us_if (ut_cmp (opd_eqA hu) (uc_e i em hC c__law_take hr pass0 (ua_cons (ue_var (i := 0)) (ua_cons ue_int ua_nil))) ue_int) (us_one (us_set (i := 5) (ue_join ue_str (UL.ue (ul_lc (own := [("j", 6)]) hC nd (ui_range1 (ua_cons (ue_op opd_plus ue_int (uc_e i em hC c__law_take hr pass0 (ua_cons (ue_var (i := 0)) (ua_cons ue_int ua_nil)))) ua_nil) z_range) (blkOk_by (own := [("j", 6)]) (N := ["state", "many", "signs", "found", "k", "label", "j", "near", "sign", "one"]) (sc := defScope s_l_letters) (by decide +kernel)) (fun _ _ _ _ _ => (ug_name (i := 6) nd)) (fun _ _ _ _ _ => uts_nil) (fun _ _ _ _ _ => (uc_e i em hC c__law_pick hr pass0 (ua_cons (ue_var (i := 0)) (ua_cons (ue_var (i := 2)) ua_nil))))))) nd)) us_nil)
      (us_cons (us_set (i := 7) (ue_op opd_plus (UL.ue (ul_lst (ua_cons (ue_var (i := 5)) ua_nil))) (UL.ue (ul_lc (own := [("sign", 8)]) hC nd (ui_str (ue_var (i := 2))) (blkOk_by (own := [("sign", 8)]) (N := ["state", "many", "signs", "found", "k", "label", "j", "near", "sign", "one"]) (sc := defScope s_l_letters) (by decide +kernel)) (fun _ _ _ _ _ => (ug_name (i := 8) nd)) (fun _ _ _ _ _ => uts_nil) (fun _ _ _ _ _ => (ue_op opd_plus (ue_slice (ue_var (i := 5)) uo_none (uo_some ue_int)) (ue_var (i := 8))))))) nd)
      (us_one (us_app (i := 3) (ue_ix (UL.ue (ul_lc (own := [("one", 9)]) hC nd (ui_row (ue_var (i := 7))) (blkOk_by (own := [("one", 9)]) (N := ["state", "many", "signs", "found", "k", "label", "j", "near", "sign", "one"]) (sc := defScope s_l_letters) (by decide +kernel)) (fun _ _ _ _ _ => (ug_name (i := 9) nd)) (fun _ _ _ _ _ => (uts_one (ut_tmp (i := 3) (ut_cmp opd_notIn (ue_var (i := 9)) (ue_var (i := 3)))))) (fun _ _ _ _ _ => (ue_var (i := 9))))) ue_int)))))))
      (us_one (us_frz 3 (us_ret (UL.ue (ul_callB cl_sortedS z_sorted (ua_cons (ue_var (i := 3)) ua_nil)))))))), ?_⟩
  have sg2 : rowS (.str signs2) (sgs signs2) := .inr (.inr ⟨_, rfl, by decide +kernel, rfl⟩)
  have sz : sizeLine = 16777216 := sizeLine_eq
  refine ⟨by show 0 ≤ sizeLine; decide, fun al => ?_⟩
  refine ⟨⟨by omega, by omega⟩, fun j ρ k => k ≤ n + 20 * j ∧ ∃ (L : List Str) (y1 y2 y3 y4 y5 y6 : S), ρ = [.d (.ref i.1), .d (.int many), .d (.str signs2), .o al (L.map .str), y1, y2, y3, y4, y5, y6] ∧ L.length = j ∧ ∀ z ∈ L, letS z = true, ⟨by omega, [], _, _, _, _, _, _, rfl, rfl, fun _ m => nomatch m⟩, fun j x ρ k hx hp => ?_, fun ρ k hp => ?_⟩
  · obtain ⟨hk, L, y1, y2, y3, y4, y5, y6, rfl, hL, hG⟩ := hp
    obtain ⟨hj, rfl⟩ := rg_get hx
    have hj : j < 3 := by omega
    refine ⟨rfl, by decide +kernel, ?_⟩
    rw [labels_split]
    refine ⟨(_, labels.map .str), rfl, ⟨.inl rfl, by decide, by decide, by omega⟩, fun d m hd => ?_⟩
    obtain ⟨hd, rfl⟩ := hd
    obtain ⟨z0, hz0, rfl⟩ := List.mem_map.mp hd
    have l0 := labels_ok z0 hz0
    dsimp only
    refine seq_mid (w := uIfS _ _ _) (fun ρ m => m ≤ k + 15 ∧ ∃ (z : Str) (y1 y3 y4 y5 y6 : S), ρ = [.d (.ref i.1), .d (.int many), .d (.str signs2), .o al (L.map .str), y1, .d (.str z), y3, y4, y5, y6] ∧ letS z = true) (fun NX nx => ?_) (fun ρ m hp => ?_)
    · refine ⟨3, rfl, by omega, by decide, by decide, fun r r0 r1 => ite_b (fun _ => ?_) fun _ => nx _ _ ⟨by omega, z0, _, _, _, _, _, rfl, l0⟩⟩
      refine ⟨12, rfl, by omega, by decide, by decide, fun r r0 r1 => ?_⟩
      have h62 : (2 : Int) ^ 62 = 4611686018427387904 := by decide
      refine ⟨⟨by omega, by omega⟩, fun e acc m => m ≤ k + 3 + e ∧ ∃ cs : List Nat, acc = (cs.map one).map .str ∧ cs.length = e ∧ ∀ c ∈ cs, c ∈ signs2.cps.toList, ⟨by omega, [], rfl, rfl, fun _ m => nomatch m⟩, fun e x acc m hx hp => ?_, fun acc m hp => ?_⟩
      · obtain ⟨hm, cs, rfl, hc, hs⟩ := hp
        have he := (rg_get hx).1
        refine ⟨(_, sgs signs2), rfl, ⟨sg2, by decide +kernel, by decide +kernel, by omega⟩, fun d m2 hd => ?_⟩
        obtain ⟨hd, rfl⟩ := hd
        obtain ⟨c, hc2, rfl⟩ := List.mem_map.mp hd
        refine ⟨by rw [List.length_map, List.length_map]; omega, by omega, cs ++ [c], by rw [List.map_append, List.map_append]; rfl, by rw [List.length_append, hc]; rfl, fun c' m' => ?_⟩
        rcases List.mem_append.mp m' with m' | m'
        · exact hs c' m'
        · rw [List.mem_singleton.mp m']
          exact hc2
      · obtain ⟨hm, cs, rfl, hc, hs⟩ := hp
        rw [rg_len] at hm hc
        have hlen : ((cs.map one).map (·.length)).sum = cs.length := by
          clear hm hc hs
          induction cs with
          | nil => rfl
          | cons c r ih =>
            rw [List.map_cons, List.map_cons, List.sum_cons, ih, List.length_cons]
            show 1 + r.length = _
            omega
        refine ⟨cs.map one, .inl rfl, by rw [hlen]; show cs.length + _ * 0 ≤ _; omega, nx _ _ ⟨by omega, _, _, _, _, _, _, rfl, ?_⟩⟩
        rw [PU.join_one]
        refine letS_of ?_ ?_ fun c m' => signs_sub c (hs c (by simpa using m'))
        · show 1 ≤ cs.toArray.size
          simp only [List.size_toArray]
          omega
        · show cs.toArray.size ≤ 12
          simp only [List.size_toArray]
          omega
    obtain ⟨hm, z, y1, y3, y4, y5, y6, rfl, hz⟩ := hp
    refine ⟨by show 1 ≤ _; omega, ?_⟩
    refine ⟨fun e acc k' => k' = m ∧ acc = (signs2.cps.toList.take e).map fun c => .str (cutS z none (some 11) ++ one c), ⟨rfl, rfl⟩, fun e x acc k' hx hp => ?_, fun acc k' hp => ?_⟩
    · obtain ⟨rfl, rfl⟩ := hp
      obtain ⟨c, hc, rfl⟩ := sgs_get hx
      obtain ⟨_, hz2, _⟩ := letS_to hz
      have c11 := (cut_11 z).1
      have b1 := (List.getElem?_eq_some_iff.mp hc).1
      have s63 : signs2.cps.toList.length = 63 := by decide +kernel
      refine ⟨by omega, ⟨by show _ + 1 ≤ _; omega, by rw [List.length_map, List.length_take]; omega, rfl, ?_⟩⟩
      rw [map_next hc]
      rfl
    · obtain ⟨rfl, rfl⟩ := hp
      have s63 : signs2.cps.toList.length = 63 := by decide +kernel
      have en : (PU.D.str z :: ((signs2.cps.toList.take (sgs signs2).length).map fun c => PU.D.str (cutS z none (some 11) ++ one c))) = (near z).map .str := by
        rw [List.take_of_length_le (by rw [sgs_len]; exact Nat.le_refl _)]
        unfold near
        rw [List.map_cons, List.map_map]
        rfl
      refine ⟨by rw [List.length_map, List.length_take]; show 1 + _ ≤ _; omega, ?_⟩
      rw [show [PU.D.str z] ++ ((signs2.cps.toList.take (sgs signs2).length).map fun c => PU.D.str (cutS z none (some 11) ++ one c)) = (near z).map .str from en]
      have n64 : (near z).length = 64 := by
        unfold near
        rw [List.length_cons, List.length_map, s63]
      refine ⟨fun e acc k2 => k2 = k' ∧ acc = (((near z).take e).filter fun y => !decide (y ∈ L)).map .str, ⟨rfl, rfl⟩, fun e x acc k2 hx hp => ?_, fun acc k2 hp => ?_⟩
      · obtain ⟨rfl, rfl⟩ := hp
        obtain ⟨y, hy, rfl⟩ := getmap hx
        refine ⟨rfl, flat_strsD L, ?_⟩
        rw [inF_strs]
        refine ite_b (fun b => ⟨?_, rfl, ?_⟩) fun b => ⟨rfl, ?_⟩
        · have := List.length_filter_le (fun y => !decide (y ∈ L)) ((near z).take e)
          rw [List.length_take] at this
          rw [List.length_map]
          omega
        · rw [filter_next hy, if_pos b, List.map_append]
          rfl
        · rw [filter_next hy, if_neg (by simp [b])]
      · obtain ⟨rfl, rfl⟩ := hp
        obtain ⟨y, r, ey⟩ := near_free (z := z) (found := L) (by omega)
        rw [List.take_of_length_le (by rw [List.length_map]; exact Nat.le_refl _), ey]
        have hy : y ∈ (near z).filter fun y => !decide (y ∈ L) := by rw [ey]; exact List.mem_cons_self
        refine ix_l (k := 0) rfl ⟨by rw [List.length_map]; omega, by omega, L ++ [y], _, _, _, _, _, _, by rw [List.map_append]; rfl, by rw [List.length_append, hL]; rfl, fun z' m' => ?_⟩
        rcases List.mem_append.mp m' with m' | m'
        · exact hG z' m'
        · rw [List.mem_singleton.mp m']
          exact near_sign hz y (List.mem_filter.mp hy).1
  · obtain ⟨hk, L, y1, y2, y3, y4, y5, y6, rfl, hL, hG⟩ := hp
    rw [rg_len] at hk hL
    refine ⟨L, rfl, by omega, fun L' pm _ => ?_⟩
    exact q _ _ ⟨by omega, L', rfl, by rw [pm.length_eq]; omega, fun z m => hG z (pm.mem_iff.mp m)⟩
end
end L56
set_option maxHeartbeats 2000000
namespace L56
open PySem PySem.Spec PyProof.Rows L2 HG PU LamX
abbrev Br := Nat × List D
def atStep (at_ : Nat) (f : List D) (b : Nat × List D) : List D := if b.1 = at_ then f ++ b.2 else f
def atAll (W : List D) (brs : List (Nat × List D)) (f : List D) (at_ : Nat) : List D := brs.foldl (atStep at_) f ++ (W.drop at_).take 1
def lawPut (W : List D) (brs : List (Nat × List D)) : List D := (List.range (W.length + 1)).foldl (atAll W brs) []
theorem steps_low {at_ : Nat} : ∀ {brs : List Br} {f : List D}, (∀ b ∈ brs, at_ < b.1) → brs.foldl (atStep at_) f = f
  | [], _, _ => rfl
  | b :: r, f, h => by
    have e : atStep at_ f b = f := by
      unfold atStep
      rw [if_neg (by have := h b List.mem_cons_self; omega)]
    rw [List.foldl_cons, e]
    exact steps_low fun b m => h b (List.mem_cons_of_mem _ m)
theorem take_one_more (l : List D) (lo k : Nat) : (l.drop lo).take 1 ++ (l.drop (lo + 1)).take k = (l.drop lo).take (k + 1) := by
  rw [Nat.add_comm k 1, List.take_add, List.drop_drop]
theorem all_low {W : List D} {brs : List Br} : ∀ {k lo : Nat} {f : List D}, (∀ b ∈ brs, lo + k ≤ b.1) → (List.range' lo k).foldl (atAll W brs) f = f ++ (W.drop lo).take k
  | 0, lo, f, _ => by simp
  | k + 1, lo, f, h => by
    rw [List.range'_succ, List.foldl_cons]
    rw [all_low (k := k) (lo := lo + 1) (fun b m => by have := h b m; omega)]
    have e : atAll W brs f lo = f ++ (W.drop lo).take 1 := by
      unfold atAll
      rw [steps_low fun b m => by have := h b m; omega]
    rw [e, List.append_assoc, take_one_more]
theorem all_skip {W : List D} {n : Nat} {U : List D} {r : List Br} : ∀ {l : List Nat} {f : List D}, (∀ a ∈ l, a ≠ n) → l.foldl (atAll W ((n, U) :: r)) f = l.foldl (atAll W r) f
  | [], _, _ => rfl
  | a :: l, f, h => by
    have e : atAll W ((n, U) :: r) f a = atAll W r f a := by
      show (List.foldl (atStep a) (atStep a f (n, U)) r) ++ _ = _
      have e2 : atStep a f (n, U) = f := by
        unfold atStep
        rw [if_neg (fun z => h a List.mem_cons_self (show a = n from z.symm))]
      rw [e2]
      rfl
    rw [List.foldl_cons, List.foldl_cons, e]
    exact all_skip fun a m => h a (List.mem_cons_of_mem _ m)
def putPure (W : List D) : List D → Nat → List Br → List D
  | told, ahead, [] => told ++ W.drop ahead
  | told, ahead, (n, U) :: r => putPure W (told ++ ((W.drop ahead).take (n - ahead) ++ U)) n r
/-- ascending from a number on, none beyond another -/
def Up (len : Nat) : Nat → List Br → Prop
  | _, [] => True
  | ahead, (n, _) :: r => ahead ≤ n ∧ n ≤ len ∧ Up len n r
theorem Up.ge {len : Nat} : ∀ {brs : List Br} {ahead : Nat}, Up len ahead brs → ∀ b ∈ brs, ahead ≤ b.1
  | [], _, _, _, m => nomatch m
  | (n, U) :: r, ahead, h, b, m => by
    obtain ⟨h1, h2, h3⟩ := h
    rcases List.mem_cons.mp m with rfl | m
    · exact h1
    · exact Nat.le_trans h1 (h3.ge b m)
theorem put_all {W : List D} : ∀ {brs : List Br} {told : List D} {ahead : Nat}, ahead ≤ W.length → Up W.length ahead brs → putPure W told ahead brs = (List.range' ahead (W.length + 1 - ahead)).foldl (atAll W brs) told
  | [], told, ahead, la, _ => by
    rw [all_low (brs := []) (fun b m => nomatch m)]
    show told ++ W.drop ahead = _
    rw [List.take_of_length_le (by rw [List.length_drop]; omega)]
  | (n, U) :: r, told, ahead, la, h => by
    obtain ⟨h1, h2, h3⟩ := h
    have e : List.range' ahead (W.length + 1 - ahead) = List.range' ahead (n - ahead) ++ List.range' n (W.length + 1 - n) := by
      have := List.range'_append (s := ahead) (m := n - ahead) (n := W.length + 1 - n) (step := 1)
      rw [show ahead + 1 * (n - ahead) = n by omega, show n - ahead + (W.length + 1 - n) = W.length + 1 - ahead by omega] at this
      exact this.symm
    rw [e, List.foldl_append]
    rw [all_low (W := W) (brs := (n, U) :: r) (k := n - ahead) (lo := ahead) (f := told) (fun b m => by
      rcases List.mem_cons.mp m with rfl | m
      · show ahead + (n - ahead) ≤ n
        omega
      · have := h3.ge b m
        omega)]
    show putPure W (told ++ ((W.drop ahead).take (n - ahead) ++ U)) n r = _
    rw [put_all h2 h3]
    obtain ⟨k, ek⟩ : ∃ k, W.length + 1 - n = k + 1 := ⟨W.length - n, by omega⟩
    rw [ek, List.range'_succ, List.foldl_cons, List.foldl_cons]
    rw [all_skip (fun a m => by have := (List.mem_range'_1.mp m).1; omega)]
    congr 1
    show _ = List.foldl (atStep n) (atStep n _ (n, U)) r ++ _
    have e2 : atStep n (told ++ (W.drop ahead).take (n - ahead)) (n, U) = told ++ ((W.drop ahead).take (n - ahead) ++ U) := by
      unfold atStep
      rw [if_pos rfl, List.append_assoc]
    rw [e2]
    rfl
theorem put_law {W : List D} {brs : List Br} (h : Up W.length 0 brs) : putPure W [] 0 brs = lawPut W brs := by
  rw [put_all (Nat.zero_le _) h]
  unfold lawPut
  rw [List.range_eq_range']
  rfl
abbrev Pi2 := Nat × Nat
def outOf (p : Pi2) (a : Nat) : Bool := !(decide (p.1 ≤ a) && decide (a < p.1 + p.2))
def keptOf (n : Nat) (ps : List Pi2) : List Nat := ps.foldl (fun l p => l.filter (outOf p)) (List.range n)
def leftW (W : List D) (ps : List Pi2) : List D := (keptOf W.length ps).filterMap fun a => W[a]?
def leftBr (W : List D) (ks : List Nat) (p : Pi2) : Br := ((ks.filter fun a => decide (a < p.1)).length, (W.drop p.1).take p.2)
def leftBrs (W : List D) (ps : List Pi2) : List Br := ps.map (leftBr W (keptOf W.length ps))
theorem kept_few {n : Nat} : ∀ {ps : List Pi2} {l : List Nat}, (ps.foldl (fun l p => l.filter (outOf p)) l).length ≤ l.length
  | [], _ => Nat.le_refl _
  | p :: r, l => Nat.le_trans (kept_few (n := n) (ps := r)) (List.length_filter_le _ _)
theorem kept_mem {n : Nat} : ∀ {ps : List Pi2} {l : List Nat} {a : Nat}, a ∈ ps.foldl (fun l p => l.filter (outOf p)) l → a ∈ l
  | [], _, _, m => m
  | p :: r, l, a, m => (List.mem_filter.mp (kept_mem (n := n) (ps := r) m)).1
def outAll (ps : List Pi2) (a : Nat) : Bool := ps.all fun p => outOf p a
theorem fold_filter : ∀ {ps : List Pi2} {l : List Nat}, ps.foldl (fun l p => l.filter (outOf p)) l = l.filter (outAll ps)
  | [], l => by
    show l = _
    exact (List.filter_eq_self.mpr fun a _ => rfl).symm
  | p :: r, l => by
    rw [List.foldl_cons, fold_filter, List.filter_filter]
    refine List.filter_congr fun a _ => ?_
    show (outAll r a && outOf p a) = (outOf p a && outAll r a)
    exact Bool.and_comm _ _
def keptFrom (len lo : Nat) (ps : List Pi2) : List Nat := (List.range' lo (len - lo)).filter (outAll ps)
def Up2 (len : Nat) : Nat → List Pi2 → Prop
  | _, [] => True
  | ahead, (s, z) :: r => ahead ≤ s ∧ s + z ≤ len ∧ Up2 len (s + z) r
theorem Up2.out {len : Nat} : ∀ {ps : List Pi2} {ahead a : Nat}, Up2 len ahead ps → a < ahead → outAll ps a = true
  | [], _, _, _, _ => rfl
  | (s, z) :: r, ahead, a, h, lt => by
    obtain ⟨h1, h2, h3⟩ := h
    show (outOf (s, z) a && outAll r a) = true
    rw [h3.out (by omega : a < s + z)]
    show (!(decide (s ≤ a) && decide (a < s + z)) && true) = true
    rw [decide_eq_false (by omega : ¬ s ≤ a)]
    rfl
theorem Up2.inn {len : Nat} : ∀ {ps : List Pi2} {ahead : Nat}, Up2 len ahead ps → ∀ p ∈ ps, p.1 + p.2 ≤ len
  | [], _, _, _, m => nomatch m
  | (s, z) :: r, ahead, h, p, m => by
    obtain ⟨h1, h2, h3⟩ := h
    rcases List.mem_cons.mp m with rfl | m
    · exact h2
    · exact h3.inn p m
theorem kept_cons {len ahead s z : Nat} {r : List Pi2} (h : Up2 len ahead ((s, z) :: r)) : keptFrom len ahead ((s, z) :: r) = List.range' ahead (s - ahead) ++ keptFrom len (s + z) r := by
  obtain ⟨h1, h2, h3⟩ := id h
  unfold keptFrom
  have e1 : List.range' ahead (len - ahead) = List.range' ahead (s - ahead) ++ (List.range' s z ++ List.range' (s + z) (len - (s + z))) := by
    have a1 := List.range'_append (s := s) (m := z) (n := len - (s + z)) (step := 1)
    rw [show s + 1 * z = s + z by omega, show z + (len - (s + z)) = len - s by omega] at a1
    have a2 := List.range'_append (s := ahead) (m := s - ahead) (n := len - s) (step := 1)
    rw [show ahead + 1 * (s - ahead) = s by omega, show s - ahead + (len - s) = len - ahead by omega] at a2
    rw [a1, a2]
  rw [e1, List.filter_append, List.filter_append]
  have f1 : (List.range' ahead (s - ahead)).filter (outAll ((s, z) :: r)) = List.range' ahead (s - ahead) := List.filter_eq_self.mpr fun a m => by
    have := List.mem_range'_1.mp m
    show (outOf (s, z) a && outAll r a) = true
    rw [h3.out (by omega : a < s + z)]
    show (!(decide (s ≤ a) && decide (a < s + z)) && true) = true
    rw [decide_eq_false (by omega : ¬ s ≤ a)]
    rfl
  have f2 : (List.range' s z).filter (outAll ((s, z) :: r)) = [] := List.filter_eq_nil_iff.mpr fun a m => by
    have := List.mem_range'_1.mp m
    show ¬ (outOf (s, z) a && outAll r a) = true
    have e : outOf (s, z) a = false := by
      show (!(decide (s ≤ a) && decide (a < s + z))) = false
      rw [decide_eq_true (by omega : s ≤ a), decide_eq_true (by omega : a < s + z)]
      rfl
    rw [e]
    simp
  have f3 : (List.range' (s + z) (len - (s + z))).filter (outAll ((s, z) :: r)) = (List.range' (s + z) (len - (s + z))).filter (outAll r) := List.filter_congr fun a m => by
    have := List.mem_range'_1.mp m
    show (outOf (s, z) a && outAll r a) = outAll r a
    have e : outOf (s, z) a = true := by
      show (!(decide (s ≤ a) && decide (a < s + z))) = true
      rw [decide_eq_false (by omega : ¬ a < s + z), Bool.and_false]
      rfl
    rw [e, Bool.true_and]
  rw [f1, f2, f3, List.nil_append]
theorem range_get (W : List D) : ∀ {k lo : Nat}, lo + k ≤ W.length → (List.range' lo k).filterMap (fun a => W[a]?) = (W.drop lo).take k
  | 0, lo, _ => by simp
  | k + 1, lo, h => by
    rw [List.range'_succ, List.filterMap_cons, List.getElem?_eq_getElem (by omega)]
    show W[lo] :: (List.range' (lo + 1) k).filterMap (fun a => W[a]?) = _
    rw [range_get W (by omega), List.drop_eq_getElem_cons (by omega : lo < W.length)]
    rfl
def takePure (W : List D) : List D → List Br → Nat → List Pi2 → List D × List Br
  | rest, brs, ahead, [] => (rest ++ W.drop ahead, brs)
  | rest, brs, ahead, (s, z) :: r => takePure W (rest ++ (W.drop ahead).take (s - ahead)) (brs ++ [((rest ++ (W.drop ahead).take (s - ahead)).length, (W.drop s).take z)]) (s + z) r
theorem take_all {W : List D} : ∀ {ps : List Pi2} {rest : List D} {brs : List Br} {ahead : Nat} {K0 : List Nat}, ahead ≤ W.length → Up2 W.length ahead ps → (∀ a ∈ K0, a < ahead) → rest.length = K0.length →
    takePure W rest brs ahead ps = (rest ++ (keptFrom W.length ahead ps).filterMap (fun a => W[a]?), brs ++ ps.map (leftBr W (K0 ++ keptFrom W.length ahead ps)))
  | [], rest, brs, ahead, K0, la, _, _, _ => by
    have e : keptFrom W.length ahead [] = List.range' ahead (W.length - ahead) := List.filter_eq_self.mpr fun a _ => rfl
    show (rest ++ W.drop ahead, brs) = _
    rw [e, range_get W (by omega), List.take_of_length_le (by rw [List.length_drop]; exact Nat.le_refl _)]
    simp
  | (s, z) :: r, rest, brs, ahead, K0, la, h, lo, len => by
    obtain ⟨h1, h2, h3⟩ := id h
    have lt : ((W.drop ahead).take (s - ahead)).length = s - ahead := by
      rw [List.length_take, List.length_drop]
      omega
    show takePure W (rest ++ (W.drop ahead).take (s - ahead)) (brs ++ [((rest ++ (W.drop ahead).take (s - ahead)).length, (W.drop s).take z)]) (s + z) r = _
    rw [take_all (K0 := K0 ++ List.range' ahead (s - ahead)) h2 h3 (fun a m => by
      rcases List.mem_append.mp m with m | m
      · have := lo a m
        omega
      · have := List.mem_range'_1.mp m
        omega) (by rw [List.length_append, List.length_append, lt, len, List.length_range'])]
    rw [kept_cons h, List.filterMap_append, range_get W (by omega)]
    have eb : leftBr W (K0 ++ (List.range' ahead (s - ahead) ++ keptFrom W.length (s + z) r)) (s, z) = ((rest ++ (W.drop ahead).take (s - ahead)).length, (W.drop s).take z) := by
      show (((K0 ++ (List.range' ahead (s - ahead) ++ keptFrom W.length (s + z) r)).filter fun a => decide (a < s)).length, _) = _
      have c1 : K0.filter (fun a => decide (a < s)) = K0 := List.filter_eq_self.mpr fun a m => decide_eq_true (by have := lo a m; omega)
      have c2 : (List.range' ahead (s - ahead)).filter (fun a => decide (a < s)) = List.range' ahead (s - ahead) := List.filter_eq_self.mpr fun a m => decide_eq_true (by have := List.mem_range'_1.mp m; omega)
      have c3 : (keptFrom W.length (s + z) r).filter (fun a => decide (a < s)) = [] := List.filter_eq_nil_iff.mpr fun a m => by
        have := List.mem_range'_1.mp (List.mem_filter.mp m).1
        rw [decide_eq_false (by omega)]
        decide
      rw [List.filter_append, List.filter_append, c1, c2, c3, List.append_nil, List.length_append, List.length_append, List.length_range', lt, len]
    rw [List.map_cons, eb]
    simp only [List.append_assoc, List.cons_append, List.nil_append]
theorem take_law {W : List D} {ps : List Pi2} (h : Up2 W.length 0 ps) : takePure W [] [] 0 ps = (leftW W ps, leftBrs W ps) := by
  rw [take_all (K0 := []) (Nat.zero_le _) h (fun a m => nomatch m) rfl]
  have e : keptOf W.length ps = keptFrom W.length 0 ps := by
    unfold keptOf keptFrom
    rw [fold_filter, List.range_eq_range', Nat.sub_zero]
  unfold leftW leftBrs
  rw [e]
  rfl
def itD (b : Br) : D := .tup [.int (b.1 : Nat), .tup b.2]
theorem brkD_to {ahead len n : Nat} {U : List D} {it : D} (h : brkD ahead len it = some (n, U)) : it = itD (n, U) ∧ ahead ≤ n ∧ n ≤ len ∧ U.all isLet = true := by
  rcases brkD_cases ahead len it with ⟨_, z⟩ | ⟨a, b, rfl, ⟨_, z⟩ | ⟨g, rfl, h1, h2, ⟨_, z⟩ | ⟨u, rfl, hu, z⟩⟩⟩ <;> rw [z] at h
  · cases h
  · cases h
  · cases h
  · cases h
    exact ⟨rfl, h1, h2, hu⟩
theorem brkD_of {ahead len n : Nat} {U : List D} (h1 : ahead ≤ n) (h2 : n ≤ len) (h3 : U.all isLet = true) : brkD ahead len (itD (n, U)) = some (n, U) := by
  show (if (ahead : Int) ≤ (n : Int) ∧ (n : Int) ≤ len ∧ U.all isLet = true then some ((n : Int).toNat, U) else none) = _
  rw [if_pos ⟨by omega, by omega, h3⟩]
  rfl
theorem putD_ok {W : List D} : ∀ {its told R : List D} {ahead i : Nat}, putD W told ahead i its = .ok R → ∃ brs : List Br, its = brs.map itD ∧ (∀ b ∈ brs, b.2.all isLet = true) ∧ Up W.length ahead brs ∧ R = putPure W told ahead brs
  | [], told, R, ahead, i, h => by
    cases h
    exact ⟨[], rfl, (fun _ m => nomatch m), trivial, rfl⟩
  | it :: r, told, R, ahead, i, h => by
    unfold putD at h
    cases e : brkD ahead W.length it with
    | none => rw [e] at h; cases h
    | some p =>
      obtain ⟨n, U⟩ := p
      rw [e] at h
      obtain ⟨rfl, h1, h2, h3⟩ := brkD_to e
      obtain ⟨brs, rfl, g, up, hr⟩ := putD_ok h
      refine ⟨(n, U) :: brs, rfl, fun b m => ?_, ⟨h1, h2, up⟩, hr⟩
      rcases List.mem_cons.mp m with rfl | m
      · exact h3
      · exact g b m
theorem putD_of {W : List D} : ∀ {brs : List Br} {told : List D} {ahead i : Nat}, Up W.length ahead brs → (∀ b ∈ brs, b.2.all isLet = true) → putD W told ahead i (brs.map itD) = .ok (putPure W told ahead brs)
  | [], told, ahead, i, _, _ => rfl
  | (n, U) :: r, told, ahead, i, h, g => by
    obtain ⟨h1, h2, h3⟩ := h
    show putD W told ahead i (itD (n, U) :: r.map itD) = _
    unfold putD
    rw [brkD_of h1 h2 (g (n, U) List.mem_cons_self)]
    exact putD_of h3 fun b m => g b (List.mem_cons_of_mem _ m)
def piD (p : Pi2) : D := .tup [.int (p.1 : Nat), .int (p.2 : Nat)]
theorem pieD_to {ahead len s z : Nat} {it : D} (h : pieD ahead len it = some (s, z)) : it = piD (s, z) ∧ ahead ≤ s ∧ s + z ≤ len := by
  rcases pieD_cases ahead len it with ⟨_, y⟩ | ⟨a, b, rfl, _, ⟨_, y⟩ | ⟨s', z', rfl, rfl, h1, h2, y⟩⟩ <;> rw [y] at h
  · cases h
  · cases h
  · cases h
    exact ⟨rfl, h1, h2⟩
theorem pieD_of {ahead len s z : Nat} (h1 : ahead ≤ s) (h2 : s + z ≤ len) : pieD ahead len (piD (s, z)) = some (s, z) := by
  show (if (ahead : Int) ≤ (s : Int) ∧ 0 ≤ (z : Int) ∧ (s : Int) + (z : Int) ≤ len then some ((s : Int).toNat, (z : Int).toNat) else none) = _
  rw [if_pos ⟨by omega, by omega, by omega⟩]
  rfl
def brs' (l : List Br) : List D := l.map itD
theorem takeD_ok {W : List D} : ∀ {its rest : List D} {brs : List Br} {R : List D × List D} {ahead i : Nat}, takeD W rest (brs.map itD) ahead i its = .ok R → ∃ ps : List Pi2, its = ps.map piD ∧ Up2 W.length ahead ps ∧ R = ((takePure W rest brs ahead ps).1, (takePure W rest brs ahead ps).2.map itD)
  | [], rest, brs, R, ahead, i, h => by
    cases h
    exact ⟨[], rfl, trivial, rfl⟩
  | it :: r, rest, brs, R, ahead, i, h => by
    unfold takeD at h
    cases e : pieD ahead W.length it with
    | none => rw [e] at h; cases h
    | some p =>
      obtain ⟨s, z⟩ := p
      rw [e] at h
      obtain ⟨rfl, h1, h2⟩ := pieD_to e
      have h' : takeD W (rest ++ (W.drop ahead).take (s - ahead)) ((brs ++ [((rest ++ (W.drop ahead).take (s - ahead)).length, (W.drop s).take z)]).map itD) (s + z) (i + 1) r = .ok R := by
        rw [List.map_append]
        exact h
      obtain ⟨ps, rfl, up, hr⟩ := takeD_ok h'
      exact ⟨(s, z) :: ps, rfl, ⟨h1, h2, up⟩, hr⟩
theorem takeD_of {W : List D} : ∀ {ps : List Pi2} {rest : List D} {brs : List Br} {ahead i : Nat}, Up2 W.length ahead ps → takeD W rest (brs.map itD) ahead i (ps.map piD) = .ok ((takePure W rest brs ahead ps).1, (takePure W rest brs ahead ps).2.map itD)
  | [], rest, brs, ahead, i, _ => rfl
  | (s, z) :: r, rest, brs, ahead, i, h => by
    obtain ⟨h1, h2, h3⟩ := h
    show takeD W rest (brs.map itD) ahead i (piD (s, z) :: r.map piD) = _
    unfold takeD
    rw [pieD_of h1 h2]
    have := takeD_of (ps := r) (rest := rest ++ (W.drop ahead).take (s - ahead)) (brs := brs ++ [((rest ++ (W.drop ahead).take (s - ahead)).length, (W.drop s).take z)]) (ahead := s + z) (i := i + 1) h3
    rw [List.map_append] at this
    exact this
end L56
set_option maxHeartbeats 2000000
namespace PU
open PySem PySem.Spec PyProof.Rows L2 HG LamX
theorem dda_rg {K : PySem.W.Frag} {F : Hp} {f : Nat → Int} : ∀ {l : List Nat}, DdA K F (l.map fun i => V.int (f i)) (l.map fun i => D.int (f i))
  | [] => .nil
  | _ :: _ => .cons (.int _) dda_rg
def uLstRg (ua : TD) : TDl := fun ρ n Q => ua ρ n fun d m => ∃ j : Nat, d = .int j ∧ j ≤ 16777216 ∧ Q (rgD 0 j) m
theorem ul_listRg {X : Cx} {C : Cn} {a : Expr} {ua : TD} {p q pos rp : Pos} (h : UE X C a ua) (zl : X.mg "list" = none) (zr : X.mg "range" = none) (hl : Gl X "list" := by rfl) (hg : Gl X "range" := by rfl) (hc : X.calm = true := by rfl)
    (h1 : starEach [a] X.env = (false, eval a X.env) :: starEach [] X.env := by rfl) (h2 : starEach [(.Call (.Name "range" p) [a] [] rp)] X.env = (false, eval (.Call (.Name "range" p) [a] [] rp) X.env) :: starEach [] X.env := by rfl) :
    UL X C (.Call (.Name "list" q) [.Call (.Name "range" p) [a] [] rp] [] pos) (uLstRg ua) := by
  refine ⟨PEw (pe_listRg hc hl zl (prg_1 hg zr h.run h1) h2) fun σ H Q ⟨F, ρ, n, rel, u⟩ => ⟨F, ρ, n, rel, h.mo _ _ _ _ (fun d m ⟨j, e, l, q⟩ v F1 H1 x1 m1 d1 => ?_) u⟩, fun ρ n P Q i w => h.mo _ _ _ _ (fun d m ⟨j, e, l, q⟩ => ⟨j, e, l, i _ _ q⟩) w⟩
  subst e
  obtain rfl : v = V.int j := by cases d1; rfl
  refine ⟨_, rfl, RgOk.of_le (by omega) (by omega) (by omega) (by omega), fun p np => ?_⟩
  have e : rgV 0 (j : Int) = (List.range j).map fun (i : Nat) => V.int (0 + (i : Int)) := by
    unfold rgV
    rw [show ((j : Int) - 0).toNat = j by omega]
  refine q p _ F1 _ (x1.tr (Ex.newO x1.le np)) (C.stay m1 (Ex.newO x1.le np)) (x1.keep.none np) (x1.le.fr (fr0_none np)) upd_same ?_
  rw [e]
  exact dda_rg
end PU
set_option maxHeartbeats 2000000
namespace L56
open PySem PySem.Spec PyProof.Rows L2 HG PU LamX
section
variable {P : Program} {w : World} {K : PySem.W.Frag} {mg : Str → Option Value} {base : Heap}
theorem fold_next {α β : Type} {f : β → α → β} {l : List α} {e : Nat} {x : α} {z : β} (h : l[e]? = some x) : (l.take (e + 1)).foldl f z = f ((l.take e).foldl f z) x := by
  rw [List.take_succ, h, List.foldl_append]
  rfl
theorem cut_1 {xs : List D} {a : Nat} (h : a ≤ xs.length) : PU.cutD xs (some (a : Int)) (some ((a : Int) + 1)) = (xs.drop a).take 1 := by
  unfold PU.cutD
  rw [HT.sIx_nat, show (a : Int) + 1 = ((a + 1 : Nat) : Int) from rfl, HT.sIx_nat, Nat.min_eq_left h]
  by_cases q : a < xs.length
  · rw [Nat.min_eq_left (by omega : a + 1 ≤ xs.length), Nat.add_sub_cancel_left]
  · rw [List.drop_of_length_le (by omega)]
    simp
def sp_l_word (i : Addr × Addr × Addr) : SpD := spN (fun (x : List Str × Nat) => [.ref i.1, .lst (x.1.map .str), .int x.2]) (fun x n => 0 < x.1.length ∧ x.1.length ≤ 3 ∧ x.2 ≤ 8 ∧ n < 999990000 ∧ ∀ z ∈ x.1, letS z = true) fun x n d m => m ≤ n + 20 ∧ ∃ W : List Str, d = .tup (W.map .str) ∧ W.length ≤ x.2 ∧ ∀ z ∈ W, letS z = true
theorem ok_l_word (D : Def K mg "_law_word" s_l_word ["state", "letters", "most"])
    (z_range : mg "range" = none)
    (z_tuple : mg "tuple" = none)
    (c__law_pick : CalG P w K mg base CX0 3 "_law_pick" ["state", "some"] gDraw sp_l_pick)
    (c__law_take : CalG P w K mg base CX0 2 "_law_take" ["state", "size"] gDraw sp_l_take)
     :
    CalG P w K mg base CX0 4 "_law_word" ["state", "letters", "most"] gDraw sp_l_word := by
  refine D.uk sc_l_word (fun i => gDraw_ok i) (fun _ => mo_N) (fun _ ds n Q E ⟨x, e, _⟩ => by rw [e]; rfl) (fun i f cdv A outer s F H Ev ds n Q E hC hr h => ?_)
  have nd := sc_l_word.nd
  have hu := hr.units
  have em : Emb (gDraw i) (cnOf (gDraw i) F H).toGh := Emb.rfl
  obtain ⟨⟨Ls, most⟩, rfl, hp, q⟩ := h
  try dsimp only at q
  refine ⟨_, (us_one (us_ret (ue_callTy cd_tuple z_tuple (ua_cons (UL.ue (ul_lc (own := [("k", 3)]) hC nd (ui_range1 (ua_cons (uc_e i em hC c__law_take hr pass0 (ua_cons (ue_var (i := 0)) (ua_cons (ue_op opd_plus (ue_var (i := 2)) ue_int) ua_nil))) ua_nil) z_range) (blkOk_by (own := [("k", 3)]) (N := ["state", "letters", "most", "k"]) (sc := defScope s_l_word) (by decide +kernel)) (fun _ _ _ _ _ => (ug_name (i := 3) nd)) (fun _ _ _ _ _ => uts_nil) (fun _ _ _ _ _ => (uc_e i em hC c__law_pick hr pass0 (ua_cons (ue_var (i := 0)) (ua_cons (ue_var (i := 1)) ua_nil)))))) ua_nil)))), ?_⟩
  obtain ⟨h1, h2, h3, h4, h5⟩ := hp
  dsimp only at h1 h2 h3 h5
  have sz : sizeLine = 16777216 := sizeLine_eq
  have h62 : (2 : Int) ^ 62 = 4611686018427387904 := by decide
  refine ⟨most + 1, rfl, by omega, by omega, by omega, fun r r0 r1 => ?_⟩
  refine ⟨⟨by omega, by omega⟩, fun e acc m => m ≤ n + 1 + e ∧ ∃ W : List Str, acc = W.map .str ∧ W.length = e ∧ ∀ z ∈ W, letS z = true, ⟨by omega, [], rfl, rfl, fun _ m => nomatch m⟩, fun e x acc m hx hp => ?_, fun acc m hp => ?_⟩
  · obtain ⟨hm, W, rfl, hW, hG⟩ := hp
    have he := (rg_get hx).1
    refine ⟨(_, Ls.map .str), rfl, ⟨.inl rfl, by rw [List.length_map]; exact h1, by rw [List.length_map]; omega, by omega⟩, fun d m2 hd => ?_⟩
    obtain ⟨hd, rfl⟩ := hd
    obtain ⟨z, hz, rfl⟩ := List.mem_map.mp hd
    refine ⟨by rw [List.length_map]; omega, by omega, W ++ [z], by rw [List.map_append]; rfl, by rw [List.length_append, hW]; rfl, fun z' m' => ?_⟩
    rcases List.mem_append.mp m' with m' | m'
    · exact hG z' m'
    · rw [List.mem_singleton.mp m']
      exact h5 z hz
  · obtain ⟨hm, W, rfl, hW, hG⟩ := hp
    rw [rg_len] at hm hW
    exact q _ _ ⟨by omega, W, rfl, by omega, hG⟩
def sp_l_count : SpD := spF (fun (x : D × Int × Int) => [x.1, .int x.2.1, .int x.2.2]) (fun x => fine x.1 = true) fun x => .bl (numIn x.2.1 x.2.2 x.1)
theorem ok_l_count (D : Def K mg "_law_count" s_l_count ["thing", "least", "most"])
    (z_bool : mg "bool" = none)
    (z_int : mg "int" = none)
    (z_isinstance : mg "isinstance" = none)
     :
    CalG P w K mg base CX0 1 "_law_count" ["thing", "least", "most"] (fun _ : Unit => gh0) (fun _ => sp_l_count) := by
  refine D.uk sc_l_count (fun i => gh0_ok) (fun _ => mo_F) (fun _ ds n Q E ⟨x, e, _⟩ => by rw [e]; rfl) (fun i f cdv A outer s F H Ev ds n Q E hC hr h => ?_)
  have nd := sc_l_count.nd
  have hu := hr.units
  obtain ⟨⟨d, lo, hi⟩, rfl, hd, q⟩ := h
  try dsimp only at q
  refine ⟨_, (us_one (us_ret (ue_and (ue_isi .int (ue_var (i := 0)) z_isinstance z_int) (ue_and (ue_not (ue_isi .bool (ue_var (i := 0)) z_isinstance z_bool)) (ue_one (ue_chain opd_le opd_le (ue_var (i := 1)) (ue_var (i := 0)) (ue_var (i := 2)))))))), ?_⟩
  cases d with
  | int i =>
    show if decide (lo ≤ i) = true then Q (.bl (decide (i ≤ hi))) n else Q (.bl false) n
    dsimp only [numIn] at q
    exact ite_b (fun e => by rw [e] at q; exact q) (fun e => by rw [e] at q; exact q)
  | _ => first | exact q | cases hd
def sp_l_is_word : SpD := spF (fun d => [d]) (fun d => fine d = true) fun d => .bl (isWord d)
theorem signs_same {c : Nat} : decide (c ∈ signs2.cps.toList) = decide (c ∈ signs.cps.toList) := by
  have h : ∀ x ∈ signs.cps.toList, x ∈ signs2.cps.toList := by decide +kernel
  by_cases m : c ∈ signs.cps.toList
  · rw [decide_eq_true m, decide_eq_true (h c m)]
  · rw [decide_eq_false m, decide_eq_false (fun z => m (signs_sub c z))]
theorem pyA_ints : ∀ (ns : List Int), pyA (ns.map .int) = some (ns.map PyData.int)
  | [] => by simp [pyA]
  | n :: r => by simp [pyA, D.py, pyA_ints r]
theorem shaped_ints (ns : List Int) : SeqAt.shaped (.list (ns.map PyData.int)) = true := by
  have h1 : ∀ ns : List Int, PyData.canLayAll0 (ns.map PyData.int) = true ∧ PyData.depthAll (ns.map PyData.int) = 0 := fun ns => by
    induction ns with
    | nil => exact ⟨rfl, rfl⟩
    | cons x r ih =>
      rw [List.map_cons]
      simp only [PyData.canLayAll0, PyData.canLay0, PyData.depthAll, PyData.depth, ih.1, ih.2]
      decide
  unfold SeqAt.shaped
  simp only [PyData.canLay0, PyData.depth, (h1 ns).1, (h1 ns).2]
  decide
theorem ne_nil {ns : List Int} {Q : D → Prop} (q : Q (.bl (!ns.isEmpty))) : rEqA not (.lst (ns.map .int)) (.lst []) Q := by
  show PU.rEqD not _ _ _
  unfold PU.rEqD
  have e1 : (D.lst (ns.map .int)).py = some (.list (ns.map PyData.int)) := by
    simp only [D.py, pyA_ints]
    rfl
  have e2 : (D.lst []).py = some (.list (([] : List Int).map PyData.int)) := by
    simp only [D.py, pyA]
    rfl
  rw [e1, e2]
  refine ⟨shaped_ints _, shaped_ints [], ?_⟩
  cases ns with
  | nil => exact q
  | cons a r =>
    have e : PyData.eqv (.list ((a :: r).map PyData.int)) (.list (([] : List Int).map PyData.int)) = false := by
      simp [PyData.eqv, PyData.eqvAll]
    rw [e]
    exact q
theorem all_filter {z : Str} : (z.cps.toList.filter fun c => !decide (c ∈ signs2.cps.toList)).isEmpty = z.cps.toList.all fun c => decide (c ∈ signs.cps.toList) := by
  rw [Bool.eq_iff_iff]
  simp only [List.isEmpty_iff, List.filter_eq_nil_iff, List.all_eq_true, signs_same]
  simp
theorem ok_l_is_word (D : Def K mg "_law_is_word" s_l_is_word ["thing"])
    (z_isinstance : mg "isinstance" = none)
    (z_len : mg "len" = none)
    (z_str : mg "str" = none)
    (z_tuple : mg "tuple" = none)
     :
    CalG P w K mg base CX0 1 "_law_is_word" ["thing"] (fun _ : Unit => gh0) (fun _ => sp_l_is_word) := by
  refine D.uk sc_l_is_word (fun i => gh0_ok) (fun _ => mo_F) (fun _ ds n Q E ⟨x, e, _⟩ => by rw [e]; rfl) (fun i f cdv A outer s F H Ev ds n Q E hC hr h => ?_)
  have nd := sc_l_is_word.nd
  have hu := hr.units
  obtain ⟨d, rfl, hd, q⟩ := h
  try dsimp only at q
  refine ⟨_, (us_cons (us_set (i := 1) ue_str nd)
      (us_cons (us_if (ut_not (ut_val (ue_isi .tuple (ue_var (i := 0)) z_isinstance z_tuple))) (us_one (us_ret ue_bl)) us_nil)
      (us_cons (us_for (ui_row (ue_var (i := 0))) (ug_name (i := 2) nd)
      (us_one (us_if (UW.ut (uw_or (ut_not (ut_val (ue_isi .str (ue_var (i := 2)) z_isinstance z_str))) (uw_or (ut_not (ut_chain opd_le opd_le ue_int (ue_callB cd_len z_len (ua_cons (ue_var (i := 2)) ua_nil)) ue_int)) (uw_or1 (ut_cmp (opd_neA hu) (UL.ue (ul_lc (own := [("sign", 3)]) hC nd (ui_str (ue_var (i := 2))) (blkOk_by (own := [("sign", 3)]) (N := ["thing", "signs", "one", "sign"]) (sc := defScope s_l_is_word) (by decide +kernel)) (fun _ _ _ _ _ => (ug_name (i := 3) nd)) (fun _ _ _ _ _ => (uts_one (ut_cmp opd_notInS (ue_var (i := 3)) (ue_var (i := 1))))) (fun _ _ _ _ _ => ue_int))) (UL.ue (ul_lst ua_nil))))))) (us_one (us_ret ue_bl)) us_nil)))
      (us_one (us_ret ue_bl))))), ?_⟩
  cases d with
  | tup xs =>
    have ha := (fine_tup hd).2
    refine ⟨fun i ρ k => k = n ∧ (∃ y z, ρ = [.d (.tup xs), .d (.str signs2), y, z]) ∧ (xs.take i).all isLet = true, ⟨rfl, ⟨_, _, rfl⟩, by simp⟩, fun i x ρ k hx hp => ?_, fun ρ k hp => ?_⟩
    · obtain ⟨rfl, ⟨y, z, rfl⟩, hp⟩ := hp
      have fx := ha x (List.mem_of_getElem? hx)
      have hx0 := hx
      have bad : isLet x = false → Q (.bl false) k := fun e => by
        have : isWord (.tup xs) = false := all_not hx e
        rw [this] at q
        exact q
      cases x with
      | str z =>
        have hz : z.length < 1000 := by simpa [fine] using fx
        have hz2 : z.length ≤ sizeLine := Nat.le_of_lt (Nat.lt_of_lt_of_le hz (by decide))
        show (z.length ≤ sizeLine ∧ if decide ((1 : Int) ≤ z.length) = true then (if (!decide ((z.length : Int) ≤ 12)) = true then Q (.bl false) k else _) else Q (.bl false) k)
        refine ⟨hz2, ite_b (fun e => ite_b (fun e2 => bad ?_) fun e2 => ?_) fun e => bad ?_⟩
        · have e3 : ¬ (z.length ≤ 12) := by
            have : (12 : Int) < z.length := by simpa using e2
            omega
          simp [isLet, letS, e3]
        · have h1 : 1 ≤ z.length := by have := of_decide_eq_true e; omega
          have h2 : z.length ≤ 12 := by
            have : (z.length : Int) ≤ 12 := by simpa using e2
            omega
          refine ⟨fun i acc k' => k' = k ∧ acc = (((z.cps.toList.take i).filter fun c => !decide (c ∈ signs2.cps.toList)).map fun _ => (1 : Int)).map .int, ⟨rfl, rfl⟩, fun i x acc k' hx hp => ?_, fun acc k' hp => ?_⟩
          · obtain ⟨rfl, rfl⟩ := hp
            obtain ⟨c, hc, rfl⟩ := sgs_get hx
            refine ⟨c, signs2, rfl, rfl, ite_b (fun e3 => ⟨?_, rfl, ?_⟩) fun e3 => ⟨rfl, ?_⟩⟩
            · have := List.length_filter_le (fun c => !decide (c ∈ signs2.cps.toList)) (z.cps.toList.take i)
              have l2 : z.cps.toList.length = z.length := by simp [PySem.Str.length]
              have sz : sizeLine = 16777216 := sizeLine_eq
              rw [List.length_take] at this
              rw [List.length_map, List.length_map]
              omega
            · rw [filter_next hc, if_pos e3, List.map_append, List.map_append]
              rfl
            · rw [filter_next hc, if_neg (by rw [e3]; exact Bool.false_ne_true)]
          · obtain ⟨rfl, rfl⟩ := hp
            rw [sgs_len, List.take_of_length_le (by simp [PySem.Str.length])]
            refine ⟨by show 0 ≤ sizeLine; decide, ne_nil ?_⟩
            have e4 : (((z.cps.toList.filter fun c => !decide (c ∈ signs2.cps.toList)).map fun _ => (1 : Int))).isEmpty = letS z := by
              rw [List.isEmpty_map, all_filter]
              unfold letS
              rw [decide_eq_true h1, decide_eq_true h2]
              rfl
            rw [e4]
            refine ite_b (fun e => bad (show letS z = false by simpa using e)) fun e => ⟨rfl, ⟨_, _, rfl⟩, all_take hx0 hp (show letS z = true by simpa using e)⟩
        · have e3 : ¬ (1 ≤ z.length) := by have := of_decide_eq_false e; omega
          simp [isLet, letS, e3]
      | _ => first | exact bad rfl | cases fx
    · obtain ⟨rfl, ⟨y, z, rfl⟩, hp⟩ := hp
      rw [List.take_length] at hp
      have : isWord (.tup xs) = true := hp
      rw [this] at q
      exact q
  | _ => first | exact q | cases hd
end
end L56
set_option maxHeartbeats 2000000
namespace L56
open PySem PySem.Spec PyProof.Rows L2 HG PU LamX
section
variable {P : Program} {w : World} {K : PySem.W.Frag} {mg : Str → Option Value} {base : Heap}
theorem map_get {α β : Type} {f : α → β} {l : List α} {i : Nat} {x : β} (h : (l.map f)[i]? = some x) : ∃ y, l[i]? = some y ∧ x = f y := getmap h
theorem seqI {bd : D} {ds : List D} {i : Nat} {ρ : List S} {n : Nat} {Q : List D → Nat → Prop} (e : gt ρ i = .d bd) (h : bd = .lst ds ∨ bd = .tup ds) (q : Q ds n) : uSeqI (uVar i) ρ n Q := by
  unfold uSeqI uVar
  rw [e]
  rcases h with rfl | rfl <;> exact q
def sp_l_put : SpD := spF (fun (x : List D × D × List Br) => [.tup x.1, x.2.1]) (fun x => (x.2.1 = .lst (x.2.2.map itD) ∨ x.2.1 = .tup (x.2.2.map itD)) ∧ x.1.length ≤ 100 ∧ x.2.2.length ≤ 100 ∧ ∀ b ∈ x.2.2, b.2.length ≤ 100) fun x => .tup (lawPut x.1 x.2.2)
section
theorem ok_l_put (D : Def K mg "_law_put" s_l_put ["word", "breaks"])
    (z_len : mg "len" = none)
    (z_range : mg "range" = none)
     :
    CalG P w K mg base CX0 1 "_law_put" ["word", "breaks"] (fun _ : Unit => gh0) (fun _ => sp_l_put) := by
  refine D.uk sc_l_put (fun i => gh0_ok) (fun _ => mo_F) (fun _ ds n Q E ⟨x, e, _⟩ => by rw [e]; rfl) (fun i f cdv A outer s F H Ev ds n Q E hC hr h => ?_)
  have nd := sc_l_put.nd
  have hu := hr.units
  obtain ⟨⟨W, bd, bs⟩, rfl, hp, q⟩ := h
  try dsimp only at q
  refine ⟨_, (us_cons (us_set (i := 2) (ue_tup ua_nil) nd)
      (us_cons (us_for (ui_range1 (ua_cons (ue_op opd_plus (ue_callB cd_len z_len (ua_cons (ue_var (i := 0)) ua_nil)) ue_int) ua_nil) z_range) (ug_name (i := 3) nd)
      (us_cons (us_for (ui_row (ue_var (i := 1))) (ug_tup (ug_cons (ug_name (i := 4) nd) (ug_cons (ug_name (i := 5) nd) ug_nil)))
      (us_one (us_set (i := 2) (ue_ifExp (ut_cmp (opd_eqA hu) (ue_var (i := 4)) (ue_var (i := 3))) (ue_op opd_plus (ue_var (i := 2)) (ue_var (i := 5))) (ue_var (i := 2))) nd)))
      (us_one (us_set (i := 2) (ue_op opd_plus (ue_var (i := 2)) (ue_slice (ue_var (i := 0)) (uo_some (ue_var (i := 3))) (uo_some (ue_op opd_plus (ue_var (i := 3)) ue_int)))) nd))))
      (us_one (us_ret (ue_var (i := 2)))))), ?_⟩
  have S1 : ∀ {bd : PU.D} {ds : List PU.D} {ρ : List S} {n : Nat} {Q : List PU.D → Nat → Prop}, gt ρ 1 = .d bd → (bd = .lst ds ∨ bd = .tup ds) → Q ds n → uSeqI (uVar 1) ρ n Q := fun e h q => seqI e h q
  generalize uSeqI (uVar 1) = U1 at S1 ⊢
  obtain ⟨h1, h2, h3, h4⟩ := hp
  dsimp only at h1 h2 h3 h4
  have sz : sizeLine = 16777216 := sizeLine_eq
  have h62 : (2 : Int) ^ 62 = 4611686018427387904 := by decide
  have lW : ((W, bd, bs) : List PU.D × PU.D × List Br).1.length = W.length := rfl
  refine ⟨by show 0 ≤ sizeLine; decide, ⟨by omega, by omega⟩, ?_⟩
  refine ⟨fun a ρ k => k = n ∧ ∃ (found : List PU.D) (x y z : S), ρ = [.d (.tup W), .d bd, .d (.tup found), x, y, z] ∧ found = (List.range a).foldl (atAll W bs) [] ∧ found.length ≤ 10001 * a, ⟨rfl, [], _, _, _, rfl, rfl, by simp⟩, fun a x ρ k hx hp => ?_, fun ρ k hp => ?_⟩
  · obtain ⟨rfl, found, x1, y1, z1, rfl, hf, hl⟩ := hp
    obtain ⟨ha, rfl⟩ := rg_get hx
    have ha : a ≤ W.length := by omega
    show U1 _ _ _
    refine S1 (bd := bd) (ds := bs.map itD) (by rfl) h1 ?_
    refine ⟨fun j ρ k' => k' = k ∧ ∃ (g : List PU.D) (y z : S), ρ = [.d (.tup W), .d bd, .d (.tup g), .d (.int (0 + (a : Int))), y, z] ∧ g = (bs.take j).foldl (atStep a) found ∧ g.length ≤ found.length + 100 * j, ⟨rfl, found, _, _, rfl, rfl, by simp⟩, fun j x ρ k' hx hp => ?_, fun ρ k' hp => ?_⟩
    · obtain ⟨rfl, g, y, z, rfl, hg, hgl⟩ := hp
      obtain ⟨br, hb, rfl⟩ := map_get hx
      have b4 := h4 br (List.mem_of_getElem? hb)
      have jl := (List.getElem?_eq_some_iff.mp hb).1
      have nx := fold_next (f := atStep a) (z := found) hb
      rw [← hg] at nx
      refine ⟨rfl, ite_b (fun e => ?_) fun e => ?_⟩
      · have e1 : br.1 = a := by
          have : (br.1 : Int) = 0 + (a : Int) := of_decide_eq_true e
          omega
        refine ⟨by omega, rfl, g ++ br.2, _, _, rfl, ?_, by rw [List.length_append]; omega⟩
        rw [nx]
        unfold atStep
        rw [if_pos e1]
      · have e1 : ¬ br.1 = a := by
          have : ¬ (br.1 : Int) = 0 + (a : Int) := of_decide_eq_false e
          omega
        refine ⟨rfl, g, _, _, rfl, ?_, by omega⟩
        rw [nx]
        unfold atStep
        rw [if_neg e1]
    · obtain ⟨rfl, g, y, z, rfl, hg, hgl⟩ := hp
      rw [List.take_of_length_le (by rw [List.length_map]; exact Nat.le_refl _)] at hg
      rw [List.length_map] at hgl
      have c1 := cut_1 ha
      have lc : (PU.cutD W (some (a : Int)) (some ((a : Int) + 1))).length ≤ 1 := by rw [c1, List.length_take]; omega
      show g.length + (PU.cutD W (some (0 + (a : Int))) (some (0 + (a : Int) + 1))).length ≤ sizeLine ∧ _
      rw [show (0 : Int) + (a : Int) = a by omega]
      refine ⟨by omega, rfl, g ++ PU.cutD W (some (a : Int)) (some ((a : Int) + 1)), _, _, _, rfl, ?_, by rw [List.length_append]; omega⟩
      rw [c1, List.range_succ, List.foldl_append, ← hf, hg]
      rfl
  · obtain ⟨rfl, found, x1, y1, z1, rfl, hf, hl⟩ := hp
    rw [rg_len] at hf
    rw [hf, show ((W.length : Int) + 1).toNat = W.length + 1 by omega]
    exact q
end
end
end L56
set_option maxHeartbeats 2000000
namespace L56
open PySem PySem.Spec PyProof.Rows L2 HG PU LamX
section
variable {P : Program} {w : World} {K : PySem.W.Frag} {mg : Str → Option Value} {base : Heap}
def kd (l : List Nat) : List D := l.map fun a => .int (a : Nat)
theorem kd_rg (n : Nat) : rgD 0 n = kd (List.range n) := by
  unfold rgD kd
  refine List.map_congr_left fun a _ => ?_
  rw [Int.zero_add]
def kf (n : Nat) (ps : List Pi2) : List Nat := ps.foldl (fun l p => l.filter (outOf p)) (List.range n)
theorem kf_len {n : Nat} {ps : List Pi2} : (kf n ps).length ≤ n := by
  have := kept_few (n := n) (ps := ps) (l := List.range n)
  rw [List.length_range] at this
  exact this
theorem kf_mem {n : Nat} {ps : List Pi2} {a : Nat} (h : a ∈ kf n ps) : a < n := List.mem_range.mp (kept_mem (n := n) h)
theorem kf_next {n i : Nat} {ps : List Pi2} {p : Pi2} (h : ps[i]? = some p) : kf n (ps.take (i + 1)) = (kf n (ps.take i)).filter (outOf p) := fold_next (f := fun (l : List Nat) (p : Pi2) => l.filter (outOf p)) h
theorem out1 {p : Pi2} {a : Nat} (e : decide ((p.1 : Int) ≤ (a : Int)) = false) : outOf p a = true := by
  have := of_decide_eq_false e
  unfold outOf
  rw [decide_eq_false (by omega : ¬ p.1 ≤ a)]
  rfl
theorem out2 {p : Pi2} {a : Nat} (e : (!decide ((a : Int) < (p.1 : Int) + (p.2 : Int))) = true) : outOf p a = true := by
  have : ¬ ((a : Int) < (p.1 : Int) + (p.2 : Int)) := by simpa using e
  unfold outOf
  rw [decide_eq_false (by omega : ¬ a < p.1 + p.2), Bool.and_false]
  rfl
theorem out3 {p : Pi2} {a : Nat} (e1 : decide ((p.1 : Int) ≤ (a : Int)) = true) (e : (!decide ((a : Int) < (p.1 : Int) + (p.2 : Int))) = false) : outOf p a = false := by
  have e1 := of_decide_eq_true e1
  have : ((a : Int) < (p.1 : Int) + (p.2 : Int)) := by simpa using e
  unfold outOf
  rw [decide_eq_true (by omega : p.1 ≤ a), decide_eq_true (by omega : a < p.1 + p.2)]
  rfl
theorem kd_app {l m : List Nat} : kd (l ++ m) = kd l ++ kd m := List.map_append ..
theorem kd_len {l : List Nat} : (kd l).length = l.length := List.length_map ..
theorem flen {l : List Nat} {e : Nat} {f : Nat → Bool} : ((l.take e).filter f).length ≤ l.length := by
  have := List.length_filter_le f (l.take e)
  rw [List.length_take] at this
  omega
theorem dec_lt {a b : Nat} : decide ((a : Int) < (b : Int)) = decide (a < b) := by
  by_cases h : a < b
  · rw [decide_eq_true h, decide_eq_true (by omega)]
  · rw [decide_eq_false h, decide_eq_false (by omega)]
def sp_l_left : SpD := spF (fun (x : List D × D × List Pi2) => [.tup x.1, x.2.1]) (fun x => (x.2.1 = .lst (x.2.2.map piD) ∨ x.2.1 = .tup (x.2.2.map piD)) ∧ x.1.length ≤ 100 ∧ x.2.2.length ≤ 100 ∧ ∀ p ∈ x.2.2, p.1 + p.2 ≤ x.1.length) fun x => .tup [.tup (leftW x.1 x.2.2), .lst ((leftBrs x.1 x.2.2).map itD)]
section
theorem ok_l_left (D : Def K mg "_law_left" s_l_left ["word", "pieces"])
    (z_len : mg "len" = none)
    (z_list : mg "list" = none)
    (z_range : mg "range" = none)
    (z_tuple : mg "tuple" = none)
     :
    CalG P w K mg base CX0 1 "_law_left" ["word", "pieces"] (fun _ : Unit => gh0) (fun _ => sp_l_left) := by
  refine D.uk sc_l_left (fun i => gh0_ok) (fun _ => mo_F) (fun _ ds n Q E ⟨x, e, _⟩ => by rw [e]; rfl) (fun i f cdv A outer s F H Ev ds n Q E hC hr h => ?_)
  have nd := sc_l_left.nd
  have hu := hr.units
  obtain ⟨⟨W, bd, ps⟩, rfl, hp, q⟩ := h
  try dsimp only at q
  refine ⟨_, (us_cons (us_set (i := 2) (UL.ue (ul_listRg (ue_callB cd_len z_len (ua_cons (ue_var (i := 0)) ua_nil)) z_list z_range)) nd)
      (us_cons (us_for (ui_row (ue_var (i := 1))) (ug_tup (ug_cons (ug_name (i := 3) nd) (ug_cons (ug_name (i := 4) nd) ug_nil)))
      (us_one (us_setLc (i := 2) (own := [("at", 5)]) hC nd (ui_row (ue_var (i := 2))) (blkOk_by (own := [("at", 5)]) (N := ["word", "pieces", "kept", "start", "size", "at", "breaks"]) (sc := defScope s_l_left) (by decide +kernel)) (fun _ _ _ _ _ => (ug_name (i := 5) nd)) (fun _ _ _ _ _ => (uts_one (ut_not (ut_chain opd_le opd_lt (ue_var (i := 3)) (ue_var (i := 5)) (ue_op opd_plus (ue_var (i := 3)) (ue_var (i := 4))))))) (fun _ _ _ _ _ => (ue_var (i := 5))))))
      (us_cons (us_setO (i := 6) hC (ul_lst ua_nil) nd)
      (us_cons (us_for (ui_row (ue_var (i := 1))) (ug_tup (ug_cons (ug_name (i := 3) nd) (ug_cons (ug_name (i := 4) nd) ug_nil)))
      (us_one (us_app (i := 6) (ue_tup (ua_cons (ue_callB cd_len z_len (ua_cons (UL.ue (ul_lc (own := [("at", 5)]) hC nd (ui_row (ue_var (i := 2))) (blkOk_by (own := [("at", 5)]) (N := ["word", "pieces", "kept", "start", "size", "at", "breaks"]) (sc := defScope s_l_left) (by decide +kernel)) (fun _ _ _ _ _ => (ug_name (i := 5) nd)) (fun _ _ _ _ _ => (uts_one (ut_cmp opd_lt (ue_var (i := 5)) (ue_var (i := 3))))) (fun _ _ _ _ _ => (ue_var (i := 5))))) ua_nil)) (ua_cons (ue_slice (ue_var (i := 0)) (uo_some (ue_var (i := 3))) (uo_some (ue_op opd_plus (ue_var (i := 3)) (ue_var (i := 4))))) ua_nil))))))
      (us_one (us_frz 6 (us_ret (ue_tup (ua_cons (ue_callTy cd_tuple z_tuple (ua_cons (UL.ue (ul_lc (own := [("at", 5)]) hC nd (ui_row (ue_var (i := 2))) (blkOk_by (own := [("at", 5)]) (N := ["word", "pieces", "kept", "start", "size", "at", "breaks"]) (sc := defScope s_l_left) (by decide +kernel)) (fun _ _ _ _ _ => (ug_name (i := 5) nd)) (fun _ _ _ _ _ => uts_nil) (fun _ _ _ _ _ => (ue_ix (ue_var (i := 0)) (ue_var (i := 5)))))) ua_nil)) (ua_cons (ue_var (i := 6)) ua_nil)))))))))), ?_⟩
  have S1 : ∀ {bd : PU.D} {ds : List PU.D} {ρ : List S} {n : Nat} {Q : List PU.D → Nat → Prop}, gt ρ 1 = .d bd → (bd = .lst ds ∨ bd = .tup ds) → Q ds n → uSeqI (uVar 1) ρ n Q := fun e h q => seqI e h q
  generalize uSeqI (uVar 1) = U1 at S1 ⊢
  have S2 : ∀ {bd : PU.D} {ds : List PU.D} {ρ : List S} {n : Nat} {Q : List PU.D → Nat → Prop}, gt ρ 2 = .d bd → (bd = .lst ds ∨ bd = .tup ds) → Q ds n → uSeqI (uVar 2) ρ n Q := fun e h q => seqI e h q
  generalize uSeqI (uVar 2) = U2 at S2 ⊢
  obtain ⟨h1, h2, h3, h4⟩ := hp
  dsimp only at h1 h2 h3 h4
  have sz : sizeLine = 16777216 := sizeLine_eq
  have h62 : (2 : Int) ^ 62 = 4611686018427387904 := by decide
  have lW : ((W, bd, ps) : List PU.D × PU.D × List Pi2).1.length = W.length := rfl
  refine ⟨W.length, rfl, by omega, ?_⟩
  rw [kd_rg]
  show U1 _ _ _
  refine S1 (bd := bd) (ds := ps.map piD) (by rfl) h1 ?_
  refine ⟨fun i ρ k => k = n ∧ ∃ (x y z u : S), ρ = [.d (.tup W), .d bd, .d (.lst (kd (kf W.length (ps.take i)))), x, y, z, u], ⟨rfl, _, _, _, _, rfl⟩, fun i x ρ k hx hp => ?_, fun ρ k hp => ?_⟩
  · obtain ⟨rfl, x1, y1, z1, u1, rfl⟩ := hp
    obtain ⟨p, hb, rfl⟩ := map_get hx
    have few := kf_len (n := W.length) (ps := ps.take i)
    have nxt := kf_next (n := W.length) hb
    generalize kf W.length (ps.take i) = l at few nxt ⊢
    refine ⟨rfl, ?_⟩
    show U2 _ _ _
    refine S2 (bd := .lst (kd l)) (ds := kd l) (by rfl) (.inl rfl) ?_
    refine ⟨fun e acc k' => k' = k ∧ acc = kd ((l.take e).filter (outOf p)), ⟨rfl, rfl⟩, fun e x acc k' hx hp => ?_, fun acc k' hp => ?_⟩
    · obtain ⟨rfl, rfl⟩ := hp
      obtain ⟨a, ha, rfl⟩ := map_get hx
      have bound : (kd ((l.take e).filter (outOf p))).length < sizeLine := by
        rw [kd_len]
        have := flen (l := l) (e := e) (f := outOf p)
        omega
      refine ite_b (fun e1 => ite_b (fun e2 => ⟨bound, rfl, ?_⟩) fun e2 => ⟨rfl, ?_⟩) fun e1 => (show _ ∧ _ from ⟨bound, rfl, ?_⟩)
      · rw [filter_next ha, if_pos (out2 e2), kd_app]
        rfl
      · rw [filter_next ha, if_neg (by rw [out3 e1 e2]; exact Bool.false_ne_true)]
      · rw [filter_next ha, if_pos (out1 e1), kd_app]
        rfl
    · obtain ⟨rfl, rfl⟩ := hp
      rw [List.take_of_length_le (by rw [kd_len]; exact Nat.le_refl _), ← nxt]
      exact ⟨rfl, _, _, _, _, rfl⟩
  · obtain ⟨rfl, x1, y1, z1, u1, rfl⟩ := hp
    rw [List.take_of_length_le (by rw [List.length_map]; exact Nat.le_refl _)]
    have few := kf_len (n := W.length) (ps := ps)
    have inn : ∀ a ∈ kf W.length ps, a < W.length := fun a => kf_mem
    have eW : leftW W ps = (kf W.length ps).filterMap fun a => W[a]? := rfl
    have eB : leftBrs W ps = ps.map (leftBr W (kf W.length ps)) := rfl
    rw [eW, eB] at q
    generalize kf W.length ps = ks at few inn q ⊢
    refine ⟨by show 0 ≤ sizeLine; decide, fun al => ?_⟩
    show U1 _ _ _
    refine S1 (bd := bd) (ds := ps.map piD) (by rfl) h1 ?_
    refine ⟨fun i ρ k' => k' = k ∧ ∃ (x y z : S), ρ = [.d (.tup W), .d bd, .d (.lst (kd ks)), x, y, z, .o al (((ps.take i).map (leftBr W ks)).map itD)], ⟨rfl, _, _, _, rfl⟩, fun i x ρ k' hx hp => ?_, fun ρ k' hp => ?_⟩
    · obtain ⟨rfl, x1, y1, z1, rfl⟩ := hp
      obtain ⟨p, hb, rfl⟩ := map_get hx
      have p4 := h4 p (List.mem_of_getElem? hb)
      refine ⟨rfl, ?_⟩
      show U2 _ _ _
      refine S2 (bd := .lst (kd ks)) (ds := kd ks) (by rfl) (.inl rfl) ?_
      refine ⟨fun e acc k2 => k2 = k' ∧ acc = kd ((ks.take e).filter fun a => decide (a < p.1)), ⟨rfl, rfl⟩, fun e x acc k2 hx hp => ?_, fun acc k2 hp => ?_⟩
      · obtain ⟨rfl, rfl⟩ := hp
        obtain ⟨a, ha, rfl⟩ := map_get hx
        refine ite_b (fun e1 => ⟨?_, rfl, ?_⟩) fun e1 => ⟨rfl, ?_⟩
        · rw [kd_len]
          have := flen (l := ks) (e := e) (f := fun a => decide (a < p.1))
          omega
        · rw [filter_next ha, if_pos (dec_lt.symm.trans e1), kd_app]
          rfl
        · rw [filter_next ha, if_neg (by rw [dec_lt.symm.trans e1]; exact Bool.false_ne_true)]
      · obtain ⟨rfl, rfl⟩ := hp
        rw [List.take_of_length_le (l := ks) (i := (kd ks).length) (by rw [kd_len]; exact Nat.le_refl _)]
        have il := (List.getElem?_eq_some_iff.mp hb).1
        have c2 : PU.cutD W (some (p.1 : Int)) (some ((p.1 : Int) + (p.2 : Int))) = (W.drop p.1).take p.2 := by
          have := cut_mid' (xs := W) (a := p.1) (b := p.1 + p.2) (by omega) p4
          rw [Nat.add_sub_cancel_left, Int.natCast_add] at this
          exact this
        have hv : ((ps.take (i + 1)).map (leftBr W ks)).map itD = ((ps.take i).map (leftBr W ks)).map itD ++ [PU.D.tup [.int (kd (ks.filter fun a => decide (a < p.1))).length, .tup (PU.cutD W (some (p.1 : Int)) (some ((p.1 : Int) + (p.2 : Int))))]] := by
          rw [map_next hb, List.map_append, c2, kd_len]
          rfl
        refine ⟨by show 2 ≤ sizeLine; decide, by rw [List.length_map, List.length_map, List.length_take]; omega, ?_⟩
        dsimp only
        rw [hv]
        exact ⟨rfl, _, _, _, rfl⟩
    · obtain ⟨rfl, x1, y1, z1, rfl⟩ := hp
      rw [List.take_of_length_le (by rw [List.length_map]; exact Nat.le_refl _)]
      show U2 _ _ _
      refine S2 (bd := .lst (kd ks)) (ds := kd ks) (by rfl) (.inl rfl) ?_
      refine ⟨fun e acc k2 => k2 = k' ∧ acc = (ks.take e).filterMap (fun a => W[a]?) ∧ acc.length ≤ e, ⟨rfl, rfl, Nat.zero_le _⟩, fun e x acc k2 hx hp => ?_, fun acc k2 hp => ?_⟩
      · obtain ⟨rfl, rfl, hl⟩ := hp
        obtain ⟨a, ha, rfl⟩ := map_get hx
        have el := (List.getElem?_eq_some_iff.mp ha).1
        have al := inn a (List.mem_of_getElem? ha)
        refine ix_t (k := a) (List.getElem?_eq_getElem al) ⟨by omega, rfl, ?_, by rw [List.length_append, List.length_singleton]; omega⟩
        rw [List.take_succ, ha, List.filterMap_append]
        congr 1
        show _ = [a].filterMap _
        rw [List.filterMap_cons, List.getElem?_eq_getElem al]
        rfl
      · obtain ⟨rfl, rfl, hl⟩ := hp
        rw [List.take_of_length_le (by rw [kd_len]; exact Nat.le_refl _)]
        exact ⟨by show 2 ≤ sizeLine; decide, q⟩
end
end
end L56
set_option maxHeartbeats 2000000
namespace L56
open PySem PySem.Spec PyProof.Rows L2 HG PU LamX
section
variable {P : Program} {w : World} {K : PySem.W.Frag} {mg : Str → Option Value} {base : Heap}
def nextD (brk : Bool) (len ahead : Nat) (it : D) : Option Nat := if brk then (brkD ahead len it).map (·.1) else (pieD ahead len it).map fun p => p.1 + p.2
def firstD (brk : Bool) (len : Nat) : Nat → Nat → List D → Option Nat
  | _, _, [] => none
  | ahead, i, it :: r => match nextD brk len ahead it with
    | some a => firstD brk len a (i + 1) r
    | none => some i
def firstK : Option Nat → D
  | none => .int (-1)
  | some i => .int (i : Nat)
theorem put_first {W : List D} : ∀ {its told : List D} {ahead i : Nat}, firstD true W.length ahead i its = match putD W told ahead i its with | .ok _ => none | .error j => some j
  | [], _, _, _ => rfl
  | it :: r, told, ahead, i => by
    unfold firstD putD
    show (match (brkD ahead W.length it).map (·.1) with | some a => _ | none => _) = _
    cases e : brkD ahead W.length it with
    | none => rfl
    | some p =>
      obtain ⟨g, u⟩ := p
      exact put_first
theorem take_first {W : List D} : ∀ {its rest brs : List D} {ahead i : Nat}, firstD false W.length ahead i its = match takeD W rest brs ahead i its with | .ok _ => none | .error j => some j
  | [], _, _, _, _ => rfl
  | it :: r, rest, brs, ahead, i => by
    unfold firstD takeD
    show (match (pieD ahead W.length it).map (fun p => p.1 + p.2) with | some a => _ | none => _) = _
    cases e : pieD ahead W.length it with
    | none => rfl
    | some p =>
      obtain ⟨g, u⟩ := p
      exact take_first
def good (brk : Bool) (len g : Nat) (b : D) : Bool := if brk then isWord b else numIn 0 ((len : Int) - g) b
/-- what the law's loop asks of an item -/
theorem next_cases (brk : Bool) (ahead len : Nat) (it : D) : (tupN 2 it = false ∧ nextD brk len ahead it = none) ∨ ∃ a b, it = .tup [a, b] ∧
    ((numIn ahead len a = false ∧ nextD brk len ahead it = none) ∨ ∃ g : Nat, a = .int g ∧ ahead ≤ g ∧ g ≤ len ∧ ((good brk len g b = false ∧ nextD brk len ahead it = none) ∨
      (good brk len g b = true ∧ ((brk = true ∧ nextD brk len ahead it = some g) ∨ ∃ z : Nat, brk = false ∧ b = .int z ∧ nextD brk len ahead it = some (g + z))))) := by
  cases brk with
  | true =>
    rcases brkD_cases ahead len it with ⟨h, z⟩ | ⟨a, b, rfl, ⟨h, z⟩ | ⟨g, rfl, h1, h2, ⟨h, z⟩ | ⟨u, rfl, hu, z⟩⟩⟩
    · exact .inl ⟨h, by unfold nextD; rw [z]; rfl⟩
    · exact .inr ⟨a, b, rfl, .inl ⟨h, by unfold nextD; rw [z]; rfl⟩⟩
    · exact .inr ⟨_, b, rfl, .inr ⟨g, rfl, h1, h2, .inl ⟨h, by unfold nextD; rw [z]; rfl⟩⟩⟩
    · exact .inr ⟨_, _, rfl, .inr ⟨g, rfl, h1, h2, .inr ⟨hu, .inl ⟨rfl, by unfold nextD; rw [z]; rfl⟩⟩⟩⟩
  | false =>
    have no : ∀ {t : D}, pieD ahead len t = none → nextD false len ahead t = none := fun z => by unfold nextD; rw [z]; rfl
    cases it with
    | tup xs =>
      match xs with
      | [] => exact .inl ⟨rfl, no rfl⟩
      | [_] => exact .inl ⟨by simp [tupN], no (by unfold pieD; split <;> simp_all)⟩
      | _ :: _ :: _ :: _ => exact .inl ⟨by simp [tupN]; omega, no (by unfold pieD; split <;> simp_all)⟩
      | [a, b] =>
        refine .inr ⟨a, b, rfl, ?_⟩
        cases a with
        | int s =>
          by_cases h : (ahead : Int) ≤ s ∧ s ≤ len
          · refine .inr ⟨s.toNat, by rw [Int.toNat_of_nonneg (by omega)], by omega, by omega, ?_⟩
            have es : ((s.toNat : Nat) : Int) = s := Int.toNat_of_nonneg (by omega)
            unfold good
            rw [es]
            cases b with
            | int z =>
              by_cases hz : 0 ≤ z ∧ z ≤ (len : Int) - s
              · refine .inr ⟨?_, .inr ⟨z.toNat, rfl, by rw [Int.toNat_of_nonneg hz.1], ?_⟩⟩
                · show (decide (0 ≤ z) && decide (z ≤ (len : Int) - s)) = true
                  rw [decide_eq_true hz.1, decide_eq_true hz.2]
                  rfl
                · have e : pieD ahead len (.tup [.int s, .int z]) = some (s.toNat, z.toNat) := by
                    simp only [pieD]
                    rw [if_pos ⟨h.1, hz.1, by omega⟩]
                  unfold nextD
                  rw [e]
                  rfl
              · refine .inl ⟨?_, no ?_⟩
                · show (decide (0 ≤ z) && decide (z ≤ (len : Int) - s)) = false
                  by_cases q : 0 ≤ z
                  · rw [decide_eq_false (fun y => hz ⟨q, y⟩), Bool.and_false]
                  · rw [decide_eq_false q, Bool.false_and]
                · simp only [pieD]
                  rw [if_neg (fun y => hz ⟨y.2.1, by omega⟩)]
            | _ => exact .inl ⟨rfl, no rfl⟩
          · refine .inl ⟨?_, no ?_⟩
            · show (decide ((ahead : Int) ≤ s) && decide (s ≤ len)) = false
              by_cases q : (ahead : Int) ≤ s
              · rw [decide_eq_false (fun y => h ⟨q, y⟩), Bool.and_false]
              · rw [decide_eq_false q, Bool.false_and]
            · cases b with
              | int z =>
                simp only [pieD]
                rw [if_neg (fun y => h ⟨y.1, by omega⟩)]
              | _ => rfl
        | _ => exact .inl ⟨rfl, no rfl⟩
    | _ => exact .inl ⟨rfl, no rfl⟩
def firstR (W : List D) (things : D) (brk : Bool) : D := match rowOf things with
  | some its => firstK (firstD brk W.length 0 0 its)
  | none => .non
def sp_l_first : SpD := spF (fun (x : List D × D × Bool) => [.tup x.1, x.2.1, .bl x.2.2]) (fun x => x.1.length < 1000 ∧ fine x.2.1 = true) fun x => firstR x.1 x.2.1 x.2.2
theorem ok_l_first (D : Def K mg "_law_first" s_l_first ["word", "things", "is_break"])
    (z_enumerate : mg "enumerate" = none)
    (z_isinstance : mg "isinstance" = none)
    (z_len : mg "len" = none)
    (z_list : mg "list" = none)
    (z_tuple : mg "tuple" = none)
    (c__law_count : CalG P w K mg base CX0 1 "_law_count" ["thing", "least", "most"] (fun _ : Unit => gh0) (fun _ => sp_l_count))
    (c__law_is_word : CalG P w K mg base CX0 1 "_law_is_word" ["thing"] (fun _ : Unit => gh0) (fun _ => sp_l_is_word))
     :
    CalG P w K mg base CX0 2 "_law_first" ["word", "things", "is_break"] (fun _ : Unit => gh0) (fun _ => sp_l_first) := by
  refine D.uk sc_l_first (fun i => gh0_ok) (fun _ => mo_F) (fun _ ds n Q E ⟨x, e, _⟩ => by rw [e]; rfl) (fun i f cdv A outer s F H Ev ds n Q E hC hr h => ?_)
  have nd := sc_l_first.nd
  have hu := hr.units
  obtain ⟨⟨W, things, brk⟩, rfl, hp, q⟩ := h
  try dsimp only at q
  refine ⟨_, (us_cons (us_if (ut_not (ut_val (ue_isi2 .list .tuple (ue_var (i := 1)) z_isinstance z_list z_tuple))) (us_one (us_ret ue_non)) us_nil)
      (us_cons (us_set (i := 3) ue_int nd)
      (us_cons (us_for (ui_enumV (i := 1) z_enumerate) (ug_tup (ug_cons (ug_name (i := 4) nd) (ug_cons (ug_name (i := 5) nd) ug_nil)))
      (us_cons (us_if (UW.ut (uw_or (ut_not (ut_val (ue_isi .tuple (ue_var (i := 5)) z_isinstance z_tuple))) (uw_or (ut_cmp (opd_neA hu) (ue_callB cd_len z_len (ua_cons (ue_var (i := 5)) ua_nil)) ue_int) (uw_or1 (ut_not (ut_val (uc_p c__law_count hr pass0 (ua_cons (ue_ix (ue_var (i := 5)) ue_int) (ua_cons (ue_var (i := 3)) (ua_cons (ue_callB cd_len z_len (ua_cons (ue_var (i := 0)) ua_nil)) ua_nil)))))))))) (us_one (us_ret (ue_var (i := 4)))) us_nil)
      (us_cons (us_if (UW.ut (uw_or (UW.ut (uw_and (ut_val (ue_var (i := 2))) (uw_and1 (ut_not (ut_val (uc_p c__law_is_word hr pass0 (ua_cons (ue_ix (ue_var (i := 5)) ue_int) ua_nil))))))) (uw_or1 (UW.ut (uw_and (ut_not (ut_val (ue_var (i := 2)))) (uw_and1 (ut_not (ut_val (uc_p c__law_count hr pass0 (ua_cons (ue_ix (ue_var (i := 5)) ue_int) (ua_cons ue_int (ua_cons (ue_op opd_sub (ue_callB cd_len z_len (ua_cons (ue_var (i := 0)) ua_nil)) (ue_ix (ue_var (i := 5)) ue_int)) ua_nil)))))))))))) (us_one (us_ret (ue_var (i := 4)))) us_nil)
      (us_one (us_set (i := 3) (ue_ifExp (ut_val (ue_var (i := 2))) (ue_ix (ue_var (i := 5)) ue_int) (ue_op opd_plus (ue_ix (ue_var (i := 5)) ue_int) (ue_ix (ue_var (i := 5)) ue_int))) nd)))))
      (us_one (us_ret (ue_neg ue_int)))))), ?_⟩
  obtain ⟨h1, h2⟩ := hp
  dsimp only at h1 h2
  have sz : sizeLine = 16777216 := sizeLine_eq
  unfold firstR at q
  rcases rowOf_row h2 with ⟨r1, r2⟩ | ⟨its, r1, r2, r3, r4, r5⟩
  · rw [r2] at q
    cases things with
    | lst _ => cases r1
    | tup _ => cases r1
    | _ => first | exact q | cases h2
  · rw [r2] at q
    rcases r5 with rfl | rfl
    all_goals
      refine ⟨fun i ρ k => k = n ∧ ∃ (least : Nat) (y z : S), ρ = [.d (.tup W), gt ρ 1, .d (.bl brk), .d (.int least), y, z] ∧ least ≤ W.length ∧ Q (firstK (firstD brk W.length least i (its.drop i))) n, ⟨rfl, 0, _, _, rfl, Nat.zero_le _, q⟩, fun i x ρ k hx hp => ?_, fun ρ k hp => ?_⟩
      · obtain ⟨rfl, least, y, z, e, hl, h3⟩ := hp
        obtain ⟨it, hi, rfl⟩ := en_get hx
        have il : i < its.length := (List.getElem?_eq_some_iff.mp hi).1
        have fi := r4 it (List.mem_of_getElem? hi)
        rw [List.drop_eq_getElem_cons il] at h3
        have hi' : its[i] = it := by rw [List.getElem?_eq_getElem il] at hi; exact Option.some.inj hi
        rw [hi'] at h3
        rw [e]
        generalize gt ρ 1 = s1 at e ⊢
        have bad : nextD brk W.length least it = none → Q (.int i) k := fun z => by
          simp only [firstD, z] at h3
          exact h3
        refine ⟨rfl, ?_⟩
        rcases next_cases brk least W.length it with ⟨a1, a2⟩ | ⟨a, b, rfl, hc⟩
        · cases it with
          | tup xs =>
            refine ite_b (fun _ => bad a2) fun e2 => ?_
            exfalso
            have e2 : (xs.length : Int) = 2 := by simpa using e2
            simp [tupN, e2] at a1
          | _ => first | exact bad a2 | cases fi
        obtain ⟨f1, f2⟩ := fine_tup fi
        refine ix_t0 (x := a) (r := [b]) ?_
        refine ⟨(a, least, W.length), rfl, f2 a (by simp), ite_b (fun e2 => ?_) fun e2 => ?_⟩
        · rcases hc with ⟨_, z⟩ | ⟨g, rfl, g1, g2, _⟩
          · exact bad z
          · exfalso
            have e2 : (!numIn least W.length (.int g)) = true := e2
            simp only [numIn] at e2
            rw [decide_eq_true (by omega : (least : Int) ≤ g), decide_eq_true (by omega : (g : Int) ≤ W.length)] at e2
            cases e2
        rcases hc with ⟨z, _⟩ | ⟨g, rfl, g1, g2, hc⟩
        · have e2 : (!numIn least W.length a) = false := e2
          rw [z] at e2
          cases e2
        cases brk with
        | true =>
          refine ix_t1 (w := .int g) (x := b) (r := []) ?_
          refine ⟨b, rfl, f2 b (by simp), ite_b (fun e3 => ?_) fun e3 => ?_⟩
          · rcases hc with ⟨_, z⟩ | ⟨z, _⟩
            · exact bad z
            · have e3 : (!isWord b) = true := e3
              have z : isWord b = true := z
              rw [z] at e3
              cases e3
          rcases hc with ⟨z, _⟩ | ⟨_, ⟨_, z⟩ | ⟨_, z, _⟩⟩
          · have e3 : (!isWord b) = false := e3
            have z : isWord b = false := z
            rw [z] at e3
            cases e3
          · simp only [firstD, z] at h3
            refine ix_t0 (x := .int g) (r := [b]) ?_
            exact ⟨rfl, g, _, _, rfl, g2, h3⟩
          · cases z
        | false =>
          refine ix_t1 (w := .int g) (x := b) (r := []) ?_
          refine ix_t0 (x := .int g) (r := [b]) ?_
          refine ⟨(b, 0, (W.length : Int) - g), rfl, f2 b (by simp), ite_b (fun e3 => ?_) fun e3 => ?_⟩
          · rcases hc with ⟨_, z⟩ | ⟨z, _⟩
            · exact bad z
            · have e3 : (!numIn 0 ((W.length : Int) - g) b) = true := e3
              have z : numIn 0 ((W.length : Int) - g) b = true := z
              rw [z] at e3
              cases e3
          rcases hc with ⟨z, _⟩ | ⟨gd, ⟨z, _⟩ | ⟨z', _, rfl, z⟩⟩
          · have e3 : (!numIn 0 ((W.length : Int) - g) b) = false := e3
            have z : numIn 0 ((W.length : Int) - g) b = false := z
            rw [z] at e3
            cases e3
          · cases z
          · simp only [firstD, z] at h3
            refine ix_t0 (x := .int g) (r := [.int z']) ?_
            refine ix_t1 (w := .int g) (x := .int z') (r := []) ?_
            have gd : (decide ((0 : Int) ≤ z') && decide ((z' : Int) ≤ (W.length : Int) - g)) = true := gd
            have gd := of_decide_eq_true (Bool.and_eq_true_iff.mp gd).2
            exact ⟨rfl, g + z', _, _, rfl, by omega, h3⟩
      · obtain ⟨rfl, least, y, z, e, hl, h3⟩ := hp
        rw [en_len, List.drop_length] at h3
        exact h3
end
end L56
set_option maxHeartbeats 2000000
namespace HG
open PySem PySem.Spec PyProof.Rows L2
theorem put_mem {kvs : List (Key × V)} {k : Key} {v : V} {kv : Key × V} (m : kv ∈ putK kvs k v) : (∃ kv' ∈ kvs, kv'.2 = kv.2) ∨ kv.2 = v := by
  unfold putK at m
  split at m
  · obtain ⟨x, mx, e⟩ := List.mem_map.mp m
    by_cases q : x.1 = k
    · rw [if_pos q] at e
      exact .inr (by rw [← e])
    · rw [if_neg q] at e
      exact .inl ⟨x, mx, by rw [e]⟩
  · rcases List.mem_append.mp m with m | m
    · exact .inl ⟨kv, m, rfl⟩
    · rw [List.mem_singleton] at m
      exact .inr (by rw [m])
theorem merge_mem : ∀ {more kvs : List (Key × V)} {kv : Key × V}, kv ∈ mergeK kvs more → (∃ kv' ∈ kvs, kv'.2 = kv.2) ∨ ∃ kv' ∈ more, kv'.2 = kv.2
  | [], kvs, kv, m => .inl ⟨kv, m, rfl⟩
  | p :: r, kvs, kv, m => by
    rcases merge_mem (more := r) (kvs := putK kvs p.1 p.2) m with ⟨x, mx, e⟩ | ⟨x, mx, e⟩
    · rcases put_mem mx with ⟨y, my, e2⟩ | e2
      · exact .inl ⟨y, my, e2.trans e⟩
      · exact .inr ⟨p, List.mem_cons_self, by rw [← e, e2]⟩
    · exact .inr ⟨x, List.mem_cons_of_mem _ mx, e⟩
theorem ik_mem : ∀ {l : List V} {k : Nat} {kv : Key × V}, (∃ kv' ∈ ik k l, kv'.2 = kv.2) → kv.2 ∈ l
  | [], _, _, ⟨_, m, _⟩ => nomatch m
  | x :: r, k, kv, ⟨y, m, e⟩ => by
    rcases List.mem_cons.mp m with rfl | m
    · rw [← e]
      exact List.mem_cons_self
    · exact List.mem_cons_of_mem _ (ik_mem ⟨y, m, e⟩)
def tDictEn (K : PySem.W.Frag) (te : TE) : TE := fun σ H Q => te σ H fun v H1 => ∃ (a : Addr) (xs : List V), v = .ref a ∧ SqL K H1 a xs ∧ ∀ q kvs, (∀ kv ∈ kvs, kv.2 ∈ xs) → H1 q = none → Q (.ref q) (upd H1 q (.dK kvs))
theorem pe_dictEn {X : Cx} {e : Expr} {te : TE} {p p2 pos pos2 : Pos} (hc : X.calm = true) (hg : Gl X "dict") (hm : X.mg "dict" = none) (hg2 : Gl X "enumerate") (hm2 : X.mg "enumerate" = none) (he : PE X e te)
    (hs : starEach [e] X.env = (false, eval e X.env) :: starEach [] X.env := by rfl)
    (hs2 : starEach [.Call (.Name "enumerate" p2) [e] [] pos2] X.env = (false, eval (.Call (.Name "enumerate" p2) [e] [] pos2) X.env) :: starEach [] X.env := by rfl) :
    PE X (.Call (.Name "dict" p) [.Call (.Name "enumerate" p2) [e] [] pos2] [] pos) (tDictEn X.K te) := by
  refine ⟨fun pins s σ H Q I h => ?_⟩
  refine Call_ (ld_blt I hg hm PyProof.Rows.boot_dict (PyProof.Rows.callWith_type1 (args_cons (Call_ (ld_blt I hg2 hm2 boot_enumerate (PyProof.Rows.callWith_type1 (args_cons (thn (he.run pins s σ H _ I h) fun u s1 ⟨v, H1, I1, r1, q1⟩ => args_nil ?_) hs) hs rfl))) hs2) hs2 rfl))
  obtain ⟨a, xs, ev, hq, q⟩ := q1
  subst ev
  obtain rfl : u = Value.ref a := r1
  obtain ⟨its, rv, p', hz⟩ := I1.list hq
  refine call_enumerate_list p'.isList fun h' hen hit hsz hk => args_nil ?_
  have I2 : Inv X pins σ H1 { s1 with heap := h' } := I1.kept (t' := s1.toks) hk
  have hf : ∀ b ∈ [s1.heap.objs.size + 1, s1.heap.objs.size], FpOk X pins H1 b := fun b hb => by
    have hle : s1.heap.objs.size ≤ b := by
      have e' : b = s1.heap.objs.size + 1 ∨ b = s1.heap.objs.size := by simpa using hb
      rcases e' with z | z
      · rw [z]; exact Nat.le_add_right _ _
      · rw [z]; exact Nat.le_refl _
    exact I1.fpOk hle (I1.hok.fresh hle)
  have hl := p'.isList
  obtain ⟨ol, hol, _⟩ := id hl
  have lt : a < s1.heap.objs.size := Heap.lt_size hol
  have hl2 : h'.IsList a its.toArray := hl.at fun o x => hk _ o x
  refine PySem.call_dict_pairs (knd := mixKind X.prog X.w) (kvs := ik 0 its) (s := { s1 with heap := h' }) (PairArg.enumerate (s1.heap.objs.size + 1) s1.heap.objs.size a (Nat.succ_ne_self _) (Nat.ne_of_lt (Nat.lt_succ_of_lt lt)) (Nat.ne_of_lt lt) its.toArray) (I1.ok.hd hc) ⟨⟨_, hen⟩, hit, hl2⟩ ⟨by rw [ik_len, List.size_toArray], fun i key v hr => ?_⟩ ?_ (fun h2 tk hd hk2 => ?_)
  · obtain ⟨⟨t, rfl⟩, hv⟩ := hr
    rw [List.getElem?_toArray] at hv
    refine ⟨Sum.inl ((i : Nat) : Int), by rw [ik_get, hv, Nat.zero_add]; rfl, ?_⟩
    exact keyIs_int (i : Int) t
  · rw [List.size_toArray, ← rv.length]
    exact hz
  · have hm' : (h'.objs.size == sysModules) = false := beq_eq_false_iff_ne.mpr (Nat.ne_of_gt I2.big)
    have hlen : (mergeK [] (ik 0 xs)).length ≤ sizeLine := by
      refine Nat.le_trans (length_mergeK _ []) ?_
      rw [List.length_nil, Nat.zero_add, ik_len]
      exact hz
    refine ⟨.ref h'.objs.size, upd H1 h'.objs.size (.dK (mergeK [] (ik 0 xs))), I2.turnedNew (t' := tk) (ch := [s1.heap.objs.size + 1, s1.heap.objs.size]) (fun b o hb e => hk2 b o hb e) hf (Nat.le_refl _) (show ObjOk X.prog X.w _ _ _ (.dK (mergeK [] (ik 0 xs))) from ⟨hlen, hm', merged [] (ik 0 its), KV.merge (ik_kv rv) .nil, hd⟩), rfl, q _ _ (fun kv m => (merge_mem m).elim (fun ⟨_, z, _⟩ => nomatch z) fun z => ik_mem z) (I2.hok.fresh (Nat.le_refl _))⟩
end HG
namespace PU
open PySem PySem.Spec PyProof.Rows L2 HG LamX
theorem DdA.rev {K : PySem.W.Frag} {F : Hp} : ∀ {vs : List V} {ds : List D}, DdA K F vs ds → DdA K F vs.reverse ds.reverse
  | _, _, .nil => .nil
  | _, _, .cons a b => by
    rw [List.reverse_cons, List.reverse_cons]
    exact (DdA.rev b).append (.cons a .nil)
def uRevL (ua : TD) : TDl := fun ρ n Q => ua ρ n fun d m => match d with
  | .lst xs => Q xs.reverse m
  | _ => False
theorem ul_rev {X : Cx} {C : Cn} {e : Expr} {ua : TD} {k : Nat} {p1 p2 p3 pos : Pos} (h : UE X C e ua) : UL X C (.Subscript e (.Slice none none (some (.UnaryOp .USub (.Constant (.int 1) k p1) p2)) p3) pos) (uRevL ua) := by
  refine ⟨PEw (pe_revL h.run) fun σ H Q ⟨F, ρ, n, rel, u⟩ => ⟨F, ρ, n, rel, h.mo _ _ _ _ (fun d m q v F1 H1 x1 m1 d1 => ?_) u⟩, fun ρ n P Q i w => h.mo _ _ _ _ (fun d m q => by cases d <;> first | exact i _ _ q | exact q) w⟩
  cases d1 with
  | lst hq ha => exact ⟨_, _, rfl, SqL.le x1.le hq, fun p np => q p _ F1 _ (x1.tr (Ex.newO x1.le np)) (C.stay m1 (Ex.newO x1.le np)) (x1.keep.none np) (x1.le.fr (fr0_none np)) upd_same ha.rev⟩
  | _ => exact q.elim
def uDictEn (ua : TD) : TD := fun ρ n Q => ua ρ n fun d m => match d with
  | .lst xs => ∀ ks ds, (∀ d ∈ ds, d ∈ xs) → Q (.dk ks ds) m
  | _ => False
theorem dda_mem {K : PySem.W.Frag} {F : Hp} : ∀ {vs : List V} {ds : List D} {v : V}, DdA K F vs ds → v ∈ vs → ∃ d ∈ ds, Dd K F v d
  | _, _, _, .nil, m => nomatch m
  | _, _, _, .cons a b, m => by
    rcases List.mem_cons.mp m with rfl | m
    · exact ⟨_, List.mem_cons_self, a⟩
    · obtain ⟨d, md, h⟩ := dda_mem b m
      exact ⟨d, List.mem_cons_of_mem _ md, h⟩
theorem dda_sub {K : PySem.W.Frag} {F : Hp} {xs : List V} {ds : List D} (h : DdA K F xs ds) : ∀ {vs : List V}, (∀ v ∈ vs, v ∈ xs) → ∃ es, DdA K F vs es ∧ ∀ d ∈ es, d ∈ ds
  | [], _ => ⟨[], .nil, fun _ m => nomatch m⟩
  | v :: r, m => by
    obtain ⟨d, md, hd⟩ := dda_mem h (m v List.mem_cons_self)
    obtain ⟨es, he, me⟩ := dda_sub h (vs := r) fun x mx => m x (List.mem_cons_of_mem _ mx)
    refine ⟨d :: es, .cons hd he, fun x mx => ?_⟩
    rcases List.mem_cons.mp mx with rfl | mx
    · exact md
    · exact me x mx
theorem ue_dictEn {X : Cx} {C : Cn} {e : Expr} {ua : TD} {p p2 pos pos2 : Pos} (h : UE X C e ua) (zd : X.mg "dict" = none) (ze : X.mg "enumerate" = none) (hc : X.calm = true := by rfl) (hg : Gl X "dict" := by rfl) (hg2 : Gl X "enumerate" := by rfl)
    (hs : starEach [e] X.env = (false, eval e X.env) :: starEach [] X.env := by rfl)
    (hs2 : starEach [.Call (.Name "enumerate" p2) [e] [] pos2] X.env = (false, eval (.Call (.Name "enumerate" p2) [e] [] pos2) X.env) :: starEach [] X.env := by rfl) :
    UE X C (.Call (.Name "dict" p) [.Call (.Name "enumerate" p2) [e] [] pos2] [] pos) (uDictEn ua) := by
  refine ⟨PEw (pe_dictEn hc hg zd hg2 ze h.run hs hs2) fun σ H Q ⟨F, ρ, n, rel, u⟩ => ⟨F, ρ, n, rel, h.mo _ _ _ _ (fun d m q v F1 H1 x1 m1 d1 => ?_) u⟩, fun ρ n P Q i w => h.mo _ _ _ _ (fun d m q => by cases d <;> first | exact fun ks ds g => i _ _ (q ks ds g) | exact q) w⟩
  cases d1 with
  | lst hq ha =>
    refine ⟨_, _, rfl, SqL.le x1.le hq, fun p kvs sub np => ?_⟩
    obtain ⟨es, he, me⟩ := dda_sub ha (vs := kvs.map (·.2)) fun v m => by
      obtain ⟨kv, mk, rfl⟩ := List.mem_map.mp m
      exact sub kv mk
    have fr := x1.le.fr (fr0_none np)
    refine q (kvs.map (·.1)) es me (.ref p) (upd F1 p (.dK kvs)) _ (x1.tr (Ex.newF x1.le np)) (C.stay m1 (Ex.newF x1.le np)) (.dk (.inl upd_same) (he.le (Le.upd fr)))
  | _ => exact q.elim
end PU
set_option maxHeartbeats 2000000
namespace L56
open PySem PySem.Spec PyProof.Rows L2 HG PU LamX
section
variable {P : Program} {w : World} {K : PySem.W.Frag} {mg : Str → Option Value} {base : Heap}
structure ItOk (it : D) : Prop where
  fin : fine it = true
  few : ∀ b : Br, it = itD b → b.2.length ≤ 100
structure Small (d : D) : Prop where
  fin : fine d = true
  row : ∀ its, rowOf d = some its → its.length ≤ 100 ∧ ∀ it ∈ its, ItOk it
def sp_l_bent (i : Addr × Addr × Addr) : SpD := spN (fun (x : List D × List D × Bool) => [.ref i.1, .tup x.1, .lst x.2.1, .bl x.2.2]) (fun x n => x.1.length ≤ 100 ∧ x.2.1.length ≤ 40 ∧ (∀ it ∈ x.2.1, ItOk it) ∧ n < 999990000) fun x n d m => m ≤ n + 20 ∧ Small d
structure InOk (d : D) : Prop where
  fin : fine d = true
  few : ∀ u, d = .tup u → u.length ≤ 100
theorem in_int (a : Int) : InOk (.int a) := ⟨rfl, fun _ e => nomatch e⟩
theorem inner1 : ∀ d ∈ [D.tup [], .tup [.str "a"], .lst [.str "a"], .str "a", .tup [.str ""], .tup [.str "a b"], .tup [.str "abcdefghijklm"], .tup [.int 5], .tup [.non], .tup [.str "a", .str "-"]], InOk d := by
  intro d hd
  simp only [List.mem_cons, List.not_mem_nil, or_false] at hd
  rcases hd with rfl | rfl | rfl | rfl | rfl | rfl | rfl | rfl | rfl | rfl <;> exact ⟨by decide +kernel, fun u e => by cases e <;> simp⟩
theorem inner2 (a b c : Int) : ∀ d ∈ [D.int 0, .int 1, .int a, .int b, .int c, .int (-1), .bl true, .non, .str "1", .tup [.int 1]], InOk d := by
  intro d hd
  simp only [List.mem_cons, List.not_mem_nil, or_false] at hd
  rcases hd with rfl | rfl | rfl | rfl | rfl | rfl | rfl | rfl | rfl | rfl
  · exact in_int _
  · exact in_int _
  · exact in_int _
  · exact in_int _
  · exact in_int _
  · exact in_int _
  · exact ⟨rfl, fun _ e => nomatch e⟩
  · exact ⟨rfl, fun _ e => nomatch e⟩
  · exact ⟨by decide +kernel, fun _ e => nomatch e⟩
  · exact ⟨by decide +kernel, fun u e => by cases e; simp⟩
theorem spots (a b c : Int) : ∀ d ∈ [D.int a, .int a, .int 0, .int b, .int c, .int (-1), .bl true, .bl false, .non, .str "0"], fine d = true := by
  intro d hd
  simp only [List.mem_cons, List.not_mem_nil, or_false] at hd
  rcases hd with rfl | rfl | rfl | rfl | rfl | rfl | rfl | rfl | rfl | rfl <;> first | rfl | decide +kernel
theorem fine_tupOf {xs : List D} (h : xs.length < 1000) (a : ∀ d ∈ xs, fine d = true) : fine (.tup xs) = true := by
  simp only [fine, Bool.and_eq_true, decide_eq_true_eq]
  exact ⟨h, fineA_of a⟩
theorem fine_lstOf {xs : List D} (h : xs.length < 1000) (a : ∀ d ∈ xs, fine d = true) : fine (.lst xs) = true := by
  simp only [fine, Bool.and_eq_true, decide_eq_true_eq]
  exact ⟨h, fineA_of a⟩
theorem itemsOk {sp inn : D} (g : Int) (hs : fine sp = true) (hi : InOk inn) : ∀ d ∈ [D.tup [sp, inn], .tup [sp, inn], .tup [sp, inn], .lst [.int g, inn], .tup [.int g], .tup [.int g, inn, .int 0], .non, .tup []], ItOk d := by
  intro d hd
  have two : ItOk (.tup [sp, inn]) := ⟨fine_tupOf (by simp) (by intro d m; simp at m; rcases m with rfl | rfl; exact hs; exact hi.fin), fun b e => hi.few b.2 (by unfold itD at e; injection e with e; injection e with _ e; injection e with e)⟩
  simp only [List.mem_cons, List.not_mem_nil, or_false] at hd
  rcases hd with rfl | rfl | rfl | rfl | rfl | rfl | rfl | rfl
  · exact two
  · exact two
  · exact two
  · exact ⟨fine_lstOf (by simp) (by intro d m; simp at m; rcases m with rfl | rfl; rfl; exact hi.fin), fun b e => by cases e⟩
  · exact ⟨fine_tupOf (by simp) (by intro d m; simp at m; subst m; rfl), fun b e => by cases e⟩
  · exact ⟨fine_tupOf (by simp) (by intro d m; simp at m; rcases m with rfl | rfl | rfl; rfl; exact hi.fin; rfl), fun b e => by cases e⟩
  · exact ⟨rfl, fun b e => by cases e⟩
  · exact ⟨by decide +kernel, fun b e => by cases e⟩
theorem cutD_len {xs : List D} {lo hi : Option Int} : (PU.cutD xs lo hi).length ≤ xs.length := by
  unfold PU.cutD
  rw [List.length_take, List.length_drop]
  omega
theorem cutD_mem {xs : List D} {lo hi : Option Int} {d : D} (m : d ∈ PU.cutD xs lo hi) : d ∈ xs := by
  unfold PU.cutD at m
  exact List.mem_of_mem_drop (List.mem_of_mem_take m)
theorem small_row {d : D} {xs : List D} (e : d = .lst xs ∨ d = .tup xs) (h : xs.length ≤ 100) (a : ∀ it ∈ xs, ItOk it) : Small d := by
  rcases e with rfl | rfl
  · exact ⟨fine_lstOf (by omega) fun d m => (a d m).fin, fun its e => by cases e; exact ⟨h, a⟩⟩
  · exact ⟨fine_tupOf (by omega) fun d m => (a d m).fin, fun its e => by cases e; exact ⟨h, a⟩⟩
theorem ends {B its : List D} {ks : List Key} {ds : List D} (h1 : B.length ≤ 100) (a1 : ∀ it ∈ B, ItOk it) (h2 : its.length ≤ 100) (a2 : ∀ it ∈ its, ItOk it) (sub : ∀ d ∈ ds, d ∈ its) :
    ∀ d ∈ [D.lst B, .lst B, .lst B, .tup B, .lst its.reverse, .non, .int 5, .str "breaks", .dk ks ds, .lst B], Small d := by
  intro d hd
  simp only [List.mem_cons, List.not_mem_nil, or_false] at hd
  have no : ∀ {d : D}, fine d = true → rowOf d = none → Small d := fun f r => ⟨f, fun its e => by rw [r] at e; cases e⟩
  rcases hd with rfl | rfl | rfl | rfl | rfl | rfl | rfl | rfl | rfl | rfl
  · exact small_row (.inl rfl) h1 a1
  · exact small_row (.inl rfl) h1 a1
  · exact small_row (.inl rfl) h1 a1
  · exact small_row (.inr rfl) h1 a1
  · exact small_row (.inl rfl) (by rw [List.length_reverse]; exact h2) fun it m => a2 it (List.mem_reverse.mp m)
  · exact no rfl rfl
  · exact no rfl rfl
  · exact no (by decide +kernel) rfl
  · exact no (by unfold fine; exact fineA_of fun d m => (a2 d (sub d m)).fin) rfl
  · exact small_row (.inl rfl) h1 a1
theorem ok_l_bent (D : Def K mg "_law_bent" s_l_bent ["state", "word", "things", "is_break"])
    (z_dict : mg "dict" = none)
    (z_enumerate : mg "enumerate" = none)
    (z_len : mg "len" = none)
    (z_tuple : mg "tuple" = none)
    (c__law_pick : CalG P w K mg base CX0 3 "_law_pick" ["state", "some"] gDraw sp_l_pick)
    (c__law_take : CalG P w K mg base CX0 2 "_law_take" ["state", "size"] gDraw sp_l_take)
     :
    CalG P w K mg base CX0 4 "_law_bent" ["state", "word", "things", "is_break"] gDraw sp_l_bent := by
  refine D.uk sc_l_bent (fun i => gDraw_ok i) (fun _ => mo_N) (fun _ ds n Q E ⟨x, e, _⟩ => by rw [e]; rfl) (fun i f cdv A outer s F H Ev ds n Q E hC hr h => ?_)
  have nd := sc_l_bent.nd
  have hu := hr.units
  have em : Emb (gDraw i) (cnOf (gDraw i) F H).toGh := Emb.rfl
  obtain ⟨⟨W, its, brk⟩, rfl, hp, q⟩ := h
  try dsimp only at q
  refine ⟨_, (us_cons (us_par (i := 4) (j := 5) (ua_cons (uc_e i em hC c__law_take hr pass0 (ua_cons (ue_var (i := 0)) (ua_cons (ue_op opd_plus (ue_callB cd_len z_len (ua_cons (ue_var (i := 2)) ua_nil)) ue_int) ua_nil))) (ua_cons (ue_callB cd_len z_len (ua_cons (ue_var (i := 1)) ua_nil)) ua_nil)) nd)
      (us_cons (us_set (i := 6) (uc_e i em hC c__law_take hr pass0 (ua_cons (ue_var (i := 0)) (ua_cons (ue_op opd_plus (ue_var (i := 5)) ue_int) ua_nil))) nd)
      (us_cons (us_set (i := 7) (uc_e i em hC c__law_pick hr pass0 (ua_cons (ue_var (i := 0)) (ua_cons (UL.ue (ul_lst (ua_cons (ue_tup ua_nil) (ua_cons (ue_tup (ua_cons ue_str ua_nil)) (ua_cons (UL.ue (ul_lst (ua_cons ue_str ua_nil))) (ua_cons ue_str (ua_cons (ue_tup (ua_cons ue_str ua_nil)) (ua_cons (ue_tup (ua_cons ue_str ua_nil)) (ua_cons (ue_tup (ua_cons ue_str ua_nil)) (ua_cons (ue_tup (ua_cons ue_int ua_nil)) (ua_cons (ue_tup (ua_cons ue_non ua_nil)) (ua_cons (ue_tup (ua_cons ue_str (ua_cons ue_str ua_nil))) ua_nil)))))))))))) ua_nil))) nd)
      (us_cons (us_if (ut_not (ut_val (ue_var (i := 3)))) (us_one (us_set (i := 7) (uc_e i em hC c__law_pick hr pass0 (ua_cons (ue_var (i := 0)) (ua_cons (UL.ue (ul_lst (ua_cons ue_int (ua_cons ue_int (ua_cons (ue_var (i := 5)) (ua_cons (ue_op opd_sub (ue_var (i := 5)) (ue_var (i := 6))) (ua_cons (ue_op opd_plus (ue_op opd_sub (ue_var (i := 5)) (ue_var (i := 6))) ue_int) (ua_cons (ue_neg ue_int) (ua_cons ue_bl (ua_cons ue_non (ua_cons ue_str (ua_cons (ue_tup (ua_cons ue_int ua_nil)) ua_nil)))))))))))) ua_nil))) nd)) us_nil)
      (us_cons (us_set (i := 8) (uc_e i em hC c__law_pick hr pass0 (ua_cons (ue_var (i := 0)) (ua_cons (UL.ue (ul_lst (ua_cons (ue_var (i := 6)) (ua_cons (ue_var (i := 6)) (ua_cons ue_int (ua_cons (ue_var (i := 5)) (ua_cons (ue_op opd_plus (ue_var (i := 5)) ue_int) (ua_cons (ue_neg ue_int) (ua_cons ue_bl (ua_cons ue_bl (ua_cons ue_non (ua_cons ue_str ua_nil)))))))))))) ua_nil))) nd)
      (us_cons (us_set (i := 9) (uc_e i em hC c__law_pick hr pass0 (ua_cons (ue_var (i := 0)) (ua_cons (UL.ue (ul_lst (ua_cons (ue_tup (ua_cons (ue_var (i := 8)) (ua_cons (ue_var (i := 7)) ua_nil))) (ua_cons (ue_tup (ua_cons (ue_var (i := 8)) (ua_cons (ue_var (i := 7)) ua_nil))) (ua_cons (ue_tup (ua_cons (ue_var (i := 8)) (ua_cons (ue_var (i := 7)) ua_nil))) (ua_cons (UL.ue (ul_lst (ua_cons (ue_var (i := 6)) (ua_cons (ue_var (i := 7)) ua_nil)))) (ua_cons (ue_tup (ua_cons (ue_var (i := 6)) ua_nil)) (ua_cons (ue_tup (ua_cons (ue_var (i := 6)) (ua_cons (ue_var (i := 7)) (ua_cons ue_int ua_nil)))) (ua_cons ue_non (ua_cons (ue_tup ua_nil) ua_nil)))))))))) ua_nil))) nd)
      (us_cons (us_set (i := 10) (ue_op opd_plus (ue_op opd_plus (ue_slice (ue_var (i := 2)) uo_none (uo_some (ue_var (i := 4)))) (UL.ue (ul_lst (ua_cons (ue_var (i := 9)) ua_nil)))) (ue_slice (ue_var (i := 2)) (uo_some (ue_op opd_plus (ue_var (i := 4)) ue_int)) uo_none)) nd)
      (us_one (us_ret (uc_e i em hC c__law_pick hr pass0 (ua_cons (ue_var (i := 0)) (ua_cons (UL.ue (ul_lst (ua_cons (ue_var (i := 10)) (ua_cons (ue_var (i := 10)) (ua_cons (ue_var (i := 10)) (ua_cons (ue_callTy cd_tuple z_tuple (ua_cons (ue_var (i := 10)) ua_nil)) (ua_cons (UL.ue (ul_rev (ue_var (i := 2)))) (ua_cons ue_non (ua_cons ue_int (ua_cons ue_str (ua_cons (ue_dictEn (ue_var (i := 2)) z_dict z_enumerate) (ua_cons (ue_var (i := 10)) ua_nil)))))))))))) ua_nil)))))))))))), ?_⟩
  obtain ⟨h1, h2, h3, h4⟩ := hp
  dsimp only at h1 h2 h3
  have sz : sizeLine = 16777216 := sizeLine_eq
  refine ⟨(its.length : Int) + 1, rfl, by omega, by omega, by omega, fun r r0 r1 => ?_⟩
  refine ⟨(W.length : Int) + 1, rfl, by omega, by omega, by omega, fun g g0 g1 => ?_⟩
  refine ⟨by show 0 ≤ sizeLine; decide, by show 1 ≤ sizeLine; decide, by show 1 ≤ sizeLine; decide, by show 1 ≤ sizeLine; decide, by show 1 ≤ sizeLine; decide, by show 1 ≤ sizeLine; decide, by show 1 ≤ sizeLine; decide, by show 1 ≤ sizeLine; decide, by show 2 ≤ sizeLine; decide, by show 10 ≤ sizeLine; decide, ?_⟩
  refine ⟨(.lst _, _), rfl, ⟨.inl rfl, by simp, by simp, by omega⟩, fun inn m hd => ?_⟩
  obtain ⟨hd, rfl⟩ := hd
  have hI := inner1 inn hd
  dsimp only
  refine seq_mid (w := uIfS _ _ _) (fun ρ m => m ≤ n + 6 ∧ ∃ (inn : PU.D) (y z u : S), InOk inn ∧ ρ = [.d (.ref i.1), .d (.tup W), .d (.lst its), .d (.bl brk), .d (.int r), .d (.int W.length), .d (.int g), .d inn, y, z, u]) (fun NX nx => ?_) (fun ρ m hp => ?_)
  · refine ite_b (fun _ => ?_) fun _ => nx _ _ ⟨by omega, inn, _, _, _, hI, rfl⟩
    refine ⟨by show 1 ≤ sizeLine; decide, by show 10 ≤ sizeLine; decide, ?_⟩
    refine ⟨(.lst _, _), rfl, ⟨.inl rfl, by simp, by simp, by omega⟩, fun inn m hd => ?_⟩
    obtain ⟨hd, rfl⟩ := hd
    exact nx _ _ ⟨by omega, inn, _, _, _, inner2 _ _ _ inn hd, rfl⟩
  obtain ⟨hm, inn, y, z, u, hI, rfl⟩ := hp
  refine ⟨by show 10 ≤ sizeLine; decide, ?_⟩
  refine ⟨(.lst _, _), rfl, ⟨.inl rfl, by simp, by simp, by omega⟩, fun sp m2 hd => ?_⟩
  obtain ⟨hd, rfl⟩ := hd
  have hS := spots _ _ _ sp hd
  refine ⟨by show 2 ≤ sizeLine; decide, by show 2 ≤ sizeLine; decide, by show 2 ≤ sizeLine; decide, by show 2 ≤ sizeLine; decide, by show 1 ≤ sizeLine; decide, by show 3 ≤ sizeLine; decide, by show 0 ≤ sizeLine; decide, by show 8 ≤ sizeLine; decide, ?_⟩
  refine ⟨(.lst _, _), rfl, ⟨.inl rfl, by simp, by simp, by omega⟩, fun it m3 hd => ?_⟩
  obtain ⟨hd, rfl⟩ := hd
  have hT := itemsOk _ hS hI it hd
  have l1 := cutD_len (xs := its) (lo := none) (hi := some r)
  have l2 := cutD_len (xs := its) (lo := some (r + 1)) (hi := none)
  have lB : (PU.cutD its none (some r) ++ [it] ++ PU.cutD its (some (r + 1)) none).length ≤ 100 := by
    rw [List.length_append, List.length_append, List.length_singleton]
    omega
  have aB : ∀ x ∈ PU.cutD its none (some r) ++ [it] ++ PU.cutD its (some (r + 1)) none, ItOk x := fun x m => by
    rcases List.mem_append.mp m with m | m
    · rcases List.mem_append.mp m with m | m
      · exact h3 x (cutD_mem m)
      · rw [List.mem_singleton.mp m]
        exact hT
    · exact h3 x (cutD_mem m)
  refine ⟨by show 1 ≤ sizeLine; decide, by show _ + 1 ≤ _; omega, by rw [List.length_append]; show _ + 1 + _ ≤ _; omega, ?_⟩
  intro ks ds hds
  refine ⟨by show 10 ≤ sizeLine; decide, ?_⟩
  refine ⟨(.lst _, _), rfl, ⟨.inl rfl, by simp, by simp, by omega⟩, fun d m4 hd => ?_⟩
  obtain ⟨hd, rfl⟩ := hd
  exact q _ _ ⟨by omega, ends lB aB (by omega) h3 hds d hd⟩
end
end L56
set_option maxHeartbeats 2000000
namespace HG
open PySem PySem.Spec PyProof.Rows L2 LamX
/-! ## xs.count(y), flat items -/
theorem count_vals {y : V} : ∀ {ys : List V} {us : List Value}, Vals ys us → ys.all flatV = true → us.countP (eqU y) = ys.countP fun z => eqV z y := by
  intro ys us r f
  induction r with
  | nil => rfl
  | cons h t ih =>
    rw [List.all_cons, Bool.and_eq_true] at f
    rw [List.countP_cons, List.countP_cons, ih f.2, eqU_of h f.1]
section
variable {X : Cx}
def rCountF (K : PySem.W.Frag) : V → List V → Hp → VK → Prop := fun x xs H Q => ∃ (a : Addr) (ys : List V) (y : V), x = V.ref a ∧ xs = [y] ∧ SqL K H a ys ∧ flatV y = true ∧ ys.all flatV = true ∧ Q (.int ((ys.countP fun z => eqV z y : Nat))) H
theorem mt_countF : MtR X "list.count" (rCountF X.K) := by
  intro pins s σ H x xs v us Q I rx rxs h
  obtain ⟨a, ys, y, rfl, rfl, hs, fy, fys, q⟩ := h
  cases rx
  obtain ⟨uy, rfl, ry⟩ := rxs.one
  obtain ⟨its, rv, ⟨⟨cls, dd, data, sl⟩, n, ho, hc, hdn, hd⟩, hlen⟩ := I.list hs
  simp only at hc hd
  subst hc hd
  refine call_meets PySem.F.slot_list_count ⟨_, ho, rfl⟩ PySem.F.entry_list_count (PySem.F.args_list_count_2 _ _)
    (SeqAt.list_countAt a its.toArray n dd sl uy (eqU y)) ⟨ho, fun u' hu' => mem_eqAt ry fy rv fys u' (by simpa using hu'), ?_⟩
  have ec : its.toArray.toList.countP (eqU y) = ys.countP fun z => eqV z y := count_vals rv fys
  refine ⟨.int ((ys.countP fun z => eqV z y : Nat)), H, I.tok _, ⟨s.toks, ?_⟩, q⟩
  show Value.int ((its.toArray.toList.countP (eqU y) : Nat) : Int) s.toks = _
  rw [ec]
end
theorem extN_keep {ex : List Addr} {H H' : Hp} (e : ExtN H H') : KeepW ex H H' :=
  ⟨fun a o h _ t => e a o h t, fun a xs h => e a _ h (fun _ z => nomatch z), fun a o u h => e a _ h (fun _ z => nomatch z), fun a o h t => ⟨o, e a o h t, t⟩⟩
end HG
namespace L56
open PySem PySem.Spec PyProof.Rows L2 HG PU LamX
/-- the three classes -/
structure Clss (K : PySem.W.Frag) (mg : Str → Option Value) (CE B CB CP : Addr) : Prop where
  ce : mg "ClockError" = some (.ref CE)
  mB : mg "BadWord" = some (.ref B)
  mCB : mg "BadBreaks" = some (.ref CB)
  mCP : mg "BadPieces" = some (.ref CP)
  isB : ExcC K B
  isCB : ExcC K CB
  isCP : ExcC K CP
  hB : PySem.W.exmOne K (.ref B) (.ref CE) = some true
  hCB : PySem.W.exmOne K (.ref CB) (.ref CE) = some true
  hCP : PySem.W.exmOne K (.ref CP) (.ref CE) = some true
  b_cb : PySem.W.kitOne K (.ref B) (.ref CB) = some false
  b_cp : PySem.W.kitOne K (.ref B) (.ref CP) = some false
  cb_b : PySem.W.kitOne K (.ref CB) (.ref B) = some false
  cb_cp : PySem.W.kitOne K (.ref CB) (.ref CP) = some false
  cp_b : PySem.W.kitOne K (.ref CP) (.ref B) = some false
  cp_cb : PySem.W.kitOne K (.ref CP) (.ref CB) = some false
  xCB : XfC K CB
  xCP : XfC K CP
  fCB : PySem.W.findIn K (.ref CB) "at" = some none
  fCP : PySem.W.findIn K (.ref CP) "at" = some none
/-- what stands in "at" -/
inductive AtV : V → PyData → Prop where
  | non : AtV .non .none
  | int (i : Nat) (h : i < 1000) : AtV (.int (i : Nat)) (.int (i : Nat))
theorem AtV.dp {K : PySem.W.Frag} {H : Hp} {v : V} {d : PyData} (h : AtV v d) : Dp K H v d := by
  cases h with
  | non => exact .non
  | int i h => exact .int _
theorem AtV.sh {v : V} {d : PyData} (h : AtV v d) : Sh 0 102 d := by
  cases h with
  | non => exact ⟨by simp only [PyData.showable], by simp only [PyData.hasDict], by simp only [PyData.depth]; omega, by simp only [PyData.shown]; decide +kernel⟩
  | int i h => exact sh_int (by omega)
inductive Told (B CB CP : Addr) (cls : Value) (d : Option Addr) (H : Hp) : Str → Str → Prop where
  | word (e : cls = .ref B) (n : d = none ∨ ∃ d', d = some d' ∧ H d' = some (.xd [])) : Told B CB CP cls d H "BadWord" ""
  | breaks {d' : Addr} {v : V} {dt : PyData} (e : cls = .ref CB) (n : d = some d') (h : H d' = some (.xd [("at", v)])) (a : AtV v dt) : Told B CB CP cls d H "BadBreaks" dt.shown
  | pieces {d' : Addr} {v : V} {dt : PyData} (e : cls = .ref CP) (n : d = some d') (h : H d' = some (.xd [("at", v)])) (a : AtV v dt) : Told B CB CP cls d H "BadPieces" dt.shown
/-- told: what becomes of what the work does -/
def TTt (K : PySem.W.Frag) (CE B CB CP : Addr) : (XK → Hp → VK → Prop) → Hp → VK → Prop := fun tl H Q => ∀ H0, Keep [] H H0 → ∀ NX : VK, (∀ v H', (∀ p, H' p = none → Q (.ref p) (upd H' p (.tup [.str "fine", v]))) → NX v H') →
  tl (fun cls d H' => PySem.W.exmOne K cls (.ref CE) = some true ∧ ∃ nm txt, Told B CB CP cls d H' nm txt ∧ ∀ r H'', Keep [] H' H'' → H'' r = none → Q (.ref r) (upd H'' r (.tup [.str nm, .str txt]))) H0 NX
theorem own_one {K : PySem.W.Frag} {C : Addr} : PySem.W.kitOne K (.ref C) (.ref C) = some true := by
  unfold PySem.W.kitOne
  rw [if_pos (by simp)]
theorem told_gives {X : Cx} {g CE B CB CP : Addr} {cdg : Value} {q : Str} (C : Clss X.K X.mg CE B CB CP) (zs : X.mg "isinstance" = none) (zp : X.mg "repr" = none)
    (ng : ∀ (s : Shared) (H : Hp), NoG (cxOf C8.CX0 X.prog X.w X.K X.mg X.base ["work", "error", "found", "e", "marks", "word"] "_law_told" (defScope s_l_told) g cdg X.A X.stack s H C8.E0).A)
    (hu : ∀ (s : Shared) (H : Hp), (cxOf C8.CX0 X.prog X.w X.K X.mg X.base ["work", "error", "found", "e", "marks", "word"] "_law_told" (defScope s_l_told) g cdg X.A X.stack s H C8.E0).A.units + 66 < cLine) :
    GivesTo X ["work", "error", "found", "e", "marks", "word"] "_law_told" (defScope s_l_told) g cdg (defBody s_l_told) "work" q (TTt X.K CE B CB CP) := by
  intro f c' s H Q tl act hc h
  have nd := sc_l_told.nd
  have ng := ng s H
  have hu := hu s H
  refine ⟨_, pss_cons (ps_asg (pe_tup (pa_cons pe_non (pa_cons pe_non pa_nil))) (pg_tup rfl (pgs_cons (pg_name (i := 1) nd rfl (.inl rfl)) (pgs_cons (pg_name (i := 2) nd rfl (.inl rfl)) pgs_nil))))
    (pss_cons (ps_try_keep (i := 3) (c := .ref CE) (X := (cxOf C8.CX0 X.prog X.w X.K X.mg X.base ["work", "error", "found", "e", "marks", "word"] "_law_told" (defScope s_l_told) g cdg X.A X.stack s H C8.E0).nox)
      (tb := fun W D σ H => ∃ Ech : XK, (∀ cls d σ' H', Ech cls d H' → W cls d σ' H') ∧ σ[0]? = some (some (.ref f)) ∧ H c' = some (CodeO c' q) ∧ tl Ech H (fun v H' => gName 2 v σ H' D.nx))
      rfl rfl rfl nd rfl rfl ⟨rfl, by decide, .inl C.ce⟩ (fun W pn xe tk _ => ?_)
      (fun a pn => pss_one (ps_set (i := 1) nd rfl (.inl rfl) (pv 3))))
    (pss_cons (ps_if (pt_cmpR op_isN (pv 1) pe_non (nomark _)) (pss_one (ps_ret (pe_tup (pa_cons pe_str (pa_cons (pv 2) pa_nil))))) pss_nil)
    (pss_cons (ps_set (i := 4) nd rfl (.inl rfl) (pe_lst (pa_cons (pe_callB call_isK2 (by rfl) zs (by decide +kernel) (pa_cons (pv 1) (pa_cons (pe_glob (v := .ref B) rfl C.mB rfl) pa_nil)))
      (pa_cons (pe_callB call_isK2 (by rfl) zs (by decide +kernel) (pa_cons (pv 1) (pa_cons (pe_glob (v := .ref CB) rfl C.mCB rfl) pa_nil))) (pa_cons (pe_callB call_isK2 (by rfl) zs (by decide +kernel) (pa_cons (pv 1) (pa_cons (pe_glob (v := .ref CP) rfl C.mCP rfl) pa_nil))) pa_nil)))))
    (pss_cons (ps_if (pt_cmpR op_ne (pe_bm PySem.F.plainAttrs_list PySem.F.slot_list_count PySem.F.type_list_count mt_countF (pv 4) (pa_cons pe_bl pa_nil)) pe_int (nomark _)) (pss_one (ps_ret (pe_tup (pa_cons pe_str (pa_cons (pv 2) pa_nil))))) pss_nil)
    (pss_cons (ps_set (i := 5) nd rfl (.inl rfl) (pe_ix ix_list (pe_lst (pa_cons pe_str (pa_cons pe_str (pa_cons pe_str pa_nil)))) (pe_bm PySem.F.plainAttrs_list PySem.F.slot_list_index PySem.F.type_list_index mt_index (pv 4) (pa_cons pe_bl pa_nil)) (fun _ _ => rfl)))
    (pss_cons (ps_if (pt_cmpR op_eq (pv 5) pe_str (nomark _)) (pss_one (ps_ret (pe_tup (pa_cons (pv 5) (pa_cons (pe_callB (call_reprD ng hu) (by rfl) zp (by decide +kernel) (pa_cons (pe_xk (pv 1)) pa_nil)) pa_nil))))) pss_nil)
    (pss_cons (ps_if (pt_cmpR op_eq (pv 5) pe_str (nomark _)) (pss_one (ps_ret (pe_tup (pa_cons (pv 5) (pa_cons (pe_callB (call_reprD ng hu) (by rfl) zp (by decide +kernel) (pa_cons (pe_xk (pv 1)) pa_nil)) pa_nil))))) pss_nil)
    (pss_one (ps_ret (pe_tup (pa_cons (pv 5) (pa_cons pe_str pa_nil)))))))))))), ?_⟩
  · refine ⟨fun pins s' σ H' D I h' => ?_⟩
    obtain ⟨Ech, hW, h1, h2, h3⟩ := h'
    refine (pss_one (ps_set (i := 2) nd rfl (.inl rfl) (act W pn xe Ech _ _ tk hW))).run pins s' σ H' D I ?_
    exact ⟨h1, h2, h3⟩
  · refine ⟨by show 2 ≤ sizeLine; decide, fun t nt => ⟨t, [_, _], rfl, .inl (.inl upd_same), rfl, _, [_], rfl, _, [], rfl, rfl, ?_⟩⟩
    have kt : Keep [] H (upd H t (.tup [.non, .non])) := Keep.new nt
    have h := h _ kt
    have hc := kt.toKeepW.get hc (fun m => nomatch m)
    generalize upd H t (.tup [.non, .non]) = H0 at h hc ⊢
    refine ⟨fun cls d H' => PySem.W.exmOne X.K cls (.ref CE) = some true ∧ ∃ nm txt, Told B CB CP cls d H' nm txt ∧ ∀ r H'', Keep [] H' H'' → H'' r = none → Q (.ref r) (upd H'' r (.tup [.str nm, .str txt])), fun cls d σ' H' hE => ⟨hE.1, fun len a na => ?_⟩, rfl, hc, ?_⟩
    · obtain ⟨_, nm, txt, td, fin⟩ := hE
      match σ', len with
      | [x0, x1, x2, x3, x4, x5], _ =>
      refine ⟨.ref a, rfl, ?_⟩
      dsimp only [gName]
      cases td with
      | word e n =>
        subst e
        have ek : ExK X.K (upd H' a (Exn (.ref B) d a)) a B [] := by
          rcases n with rfl | ⟨d', rfl, hd⟩
          · exact ⟨C.isB, .inl ⟨upd_same, rfl⟩⟩
          · exact ⟨C.isB, .inr ⟨d', upd_same, by rw [upd_ne (ne_of_none hd na)]; exact hd⟩⟩
        have ka : Keep [] H' (upd H' a (Exn (.ref B) d a)) := Keep.new na
        generalize upd H' a (Exn (.ref B) d a) = H2 at ek ka ⊢
        refine ⟨_, rfl, rfl, _, rfl, ?_⟩
        rw [decide_eq_false (fun z => nomatch z)]
        refine ⟨_, rfl, a, B, _, [], _, rfl, ek, own_one, _, rfl, a, B, _, [], _, rfl, ek, C.b_cb, _, rfl, a, B, _, [], _, rfl, ek, C.b_cp, by show 3 ≤ sizeLine; decide, fun ml nml => ?_⟩
        have km : Keep [] H2 (upd H2 ml (.lst [.bl true, .bl false, .bl false])) := Keep.new nml
        have hm : upd H2 ml (.lst [.bl true, .bl false, .bl false]) ml = some (.lst [.bl true, .bl false, .bl false]) := upd_same
        have ek3 := ek.keep km.toKeepW (fun _ m => nomatch m)
        show tSeq _ _ _ _ (upd H2 ml (.lst [.bl true, .bl false, .bl false]))
        generalize upd H2 ml (.lst [.bl true, .bl false, .bl false]) = H3 at km hm ek3 ⊢
        refine ⟨_, rfl, .inl ⟨rfl, _, SqL.of hm⟩, ml, _, .bl true, rfl, rfl, SqL.of hm, rfl, rfl, rfl, _, rfl, ?_⟩
        rw [decide_eq_true (show V.int ((([.bl true, .bl false, .bl false] : List V).countP fun z => eqV z (.bl true) : Nat)) = V.int 1 from rfl)]
        refine ⟨by show 3 ≤ sizeLine; decide, fun nl nnl => ?_⟩
        have kn : Keep [] H3 (upd H3 nl (.lst [.str "BadWord", .str "BadBreaks", .str "BadPieces"])) := Keep.new nnl
        have hn : upd H3 nl (.lst [.str "BadWord", .str "BadBreaks", .str "BadPieces"]) nl = some (.lst [.str "BadWord", .str "BadBreaks", .str "BadPieces"]) := upd_same
        have hm4 := kn.toKeepW.get hm (fun m => nomatch m)
        have ek4 := ek3.keep kn.toKeepW (fun _ m => nomatch m)
        refine ⟨_, rfl, .inl ⟨rfl, _, SqL.of hm4⟩, ml, _, .bl true, 0, .bl true, rfl, rfl, SqL.of hm4, rfl, rfl, rfl, rfl, fun m z' lt e => absurd lt (Nat.not_lt_zero _), nl, _, 0, .str "BadWord", rfl, rfl, .inl (.inl hn), atI_nat (j := 0) rfl, ?_⟩
        show tSeq _ _ _ _ (upd H3 nl (.lst [.str "BadWord", .str "BadBreaks", .str "BadPieces"]))
        generalize upd H3 nl (.lst [.str "BadWord", .str "BadBreaks", .str "BadPieces"]) = H4 at kn hn hm4 ek4 ⊢
        have kA := ((ka.trans km).trans kn)
        refine ⟨_, rfl, rfl, _, rfl, ?_⟩
        rw [decide_eq_false (show ¬ V.str "BadWord" = V.str "BadBreaks" by decide)]
        refine ⟨_, rfl, rfl, _, rfl, ?_⟩
        rw [decide_eq_false (show ¬ V.str "BadWord" = V.str "BadPieces" by decide)]
        refine ⟨_, rfl, by show 2 ≤ sizeLine; decide, fun r nr => ?_⟩
        exact fin r _ kA nr
      | @breaks d' v dt e n hd at_ =>
        subst e n
        have ek : ExK X.K (upd H' a (Exn (.ref CB) (some d') a)) a CB [("at", v)] := ⟨C.isCB, .inr ⟨d', upd_same, by rw [upd_ne (ne_of_none hd na)]; exact hd⟩⟩
        have ka : Keep [] H' (upd H' a (Exn (.ref CB) (some d') a)) := Keep.new na
        generalize upd H' a (Exn (.ref CB) (some d') a) = H2 at ek ka ⊢
        refine ⟨_, rfl, rfl, _, rfl, ?_⟩
        rw [decide_eq_false (fun z => nomatch z)]
        refine ⟨_, rfl, a, CB, _, [("at", v)], _, rfl, ek, C.cb_b, _, rfl, a, CB, _, [("at", v)], _, rfl, ek, own_one, _, rfl, a, CB, _, [("at", v)], _, rfl, ek, C.cb_cp, by show 3 ≤ sizeLine; decide, fun ml nml => ?_⟩
        have km : Keep [] H2 (upd H2 ml (.lst [.bl false, .bl true, .bl false])) := Keep.new nml
        have hm : upd H2 ml (.lst [.bl false, .bl true, .bl false]) ml = some (.lst [.bl false, .bl true, .bl false]) := upd_same
        have ek3 := ek.keep km.toKeepW (fun _ m => nomatch m)
        show tSeq _ _ _ _ (upd H2 ml (.lst [.bl false, .bl true, .bl false]))
        generalize upd H2 ml (.lst [.bl false, .bl true, .bl false]) = H3 at km hm ek3 ⊢
        refine ⟨_, rfl, .inl ⟨rfl, _, SqL.of hm⟩, ml, _, .bl true, rfl, rfl, SqL.of hm, rfl, rfl, rfl, _, rfl, ?_⟩
        rw [decide_eq_true (show V.int ((([.bl false, .bl true, .bl false] : List V).countP fun z => eqV z (.bl true) : Nat)) = V.int 1 from rfl)]
        refine ⟨by show 3 ≤ sizeLine; decide, fun nl nnl => ?_⟩
        have kn : Keep [] H3 (upd H3 nl (.lst [.str "BadWord", .str "BadBreaks", .str "BadPieces"])) := Keep.new nnl
        have hn : upd H3 nl (.lst [.str "BadWord", .str "BadBreaks", .str "BadPieces"]) nl = some (.lst [.str "BadWord", .str "BadBreaks", .str "BadPieces"]) := upd_same
        have hm4 := kn.toKeepW.get hm (fun m => nomatch m)
        have ek4 := ek3.keep kn.toKeepW (fun _ m => nomatch m)
        refine ⟨_, rfl, .inl ⟨rfl, _, SqL.of hm4⟩, ml, _, .bl true, 1, .bl true, rfl, rfl, SqL.of hm4, rfl, rfl, rfl, rfl, fun m z' lt e => by rcases m with _ | _ <;> first | (cases e; rfl) | omega, nl, _, 1, .str "BadBreaks", rfl, rfl, .inl (.inl hn), atI_nat (j := 1) rfl, ?_⟩
        show tSeq _ _ _ _ (upd H3 nl (.lst [.str "BadWord", .str "BadBreaks", .str "BadPieces"]))
        generalize upd H3 nl (.lst [.str "BadWord", .str "BadBreaks", .str "BadPieces"]) = H4 at kn hn hm4 ek4 ⊢
        have kA := ((ka.trans km).trans kn)
        refine ⟨_, rfl, rfl, _, rfl, ?_⟩
        rw [decide_eq_true (show V.str "BadBreaks" = V.str "BadBreaks" from rfl)]
        refine ⟨_, rfl, _, rfl, a, CB, _, v, rfl, ek4, C.xCB, C.fCB, rfl, v, dt, rfl, at_.dp, at_.sh.showable, at_.sh.noDict, Nat.le_trans at_.sh.depth (by decide), Nat.le_trans at_.sh.len (by decide), by show 2 ≤ sizeLine; decide, fun r nr => ?_⟩
        exact fin r _ kA nr
      | @pieces d' v dt e n hd at_ =>
        subst e n
        have ek : ExK X.K (upd H' a (Exn (.ref CP) (some d') a)) a CP [("at", v)] := ⟨C.isCP, .inr ⟨d', upd_same, by rw [upd_ne (ne_of_none hd na)]; exact hd⟩⟩
        have ka : Keep [] H' (upd H' a (Exn (.ref CP) (some d') a)) := Keep.new na
        generalize upd H' a (Exn (.ref CP) (some d') a) = H2 at ek ka ⊢
        refine ⟨_, rfl, rfl, _, rfl, ?_⟩
        rw [decide_eq_false (fun z => nomatch z)]
        refine ⟨_, rfl, a, CP, _, [("at", v)], _, rfl, ek, C.cp_b, _, rfl, a, CP, _, [("at", v)], _, rfl, ek, C.cp_cb, _, rfl, a, CP, _, [("at", v)], _, rfl, ek, own_one, by show 3 ≤ sizeLine; decide, fun ml nml => ?_⟩
        have km : Keep [] H2 (upd H2 ml (.lst [.bl false, .bl false, .bl true])) := Keep.new nml
        have hm : upd H2 ml (.lst [.bl false, .bl false, .bl true]) ml = some (.lst [.bl false, .bl false, .bl true]) := upd_same
        have ek3 := ek.keep km.toKeepW (fun _ m => nomatch m)
        show tSeq _ _ _ _ (upd H2 ml (.lst [.bl false, .bl false, .bl true]))
        generalize upd H2 ml (.lst [.bl false, .bl false, .bl true]) = H3 at km hm ek3 ⊢
        refine ⟨_, rfl, .inl ⟨rfl, _, SqL.of hm⟩, ml, _, .bl true, rfl, rfl, SqL.of hm, rfl, rfl, rfl, _, rfl, ?_⟩
        rw [decide_eq_true (show V.int ((([.bl false, .bl false, .bl true] : List V).countP fun z => eqV z (.bl true) : Nat)) = V.int 1 from rfl)]
        refine ⟨by show 3 ≤ sizeLine; decide, fun nl nnl => ?_⟩
        have kn : Keep [] H3 (upd H3 nl (.lst [.str "BadWord", .str "BadBreaks", .str "BadPieces"])) := Keep.new nnl
        have hn : upd H3 nl (.lst [.str "BadWord", .str "BadBreaks", .str "BadPieces"]) nl = some (.lst [.str "BadWord", .str "BadBreaks", .str "BadPieces"]) := upd_same
        have hm4 := kn.toKeepW.get hm (fun m => nomatch m)
        have ek4 := ek3.keep kn.toKeepW (fun _ m => nomatch m)
        refine ⟨_, rfl, .inl ⟨rfl, _, SqL.of hm4⟩, ml, _, .bl true, 2, .bl true, rfl, rfl, SqL.of hm4, rfl, rfl, rfl, rfl, fun m z' lt e => by rcases m with _ | _ | _ <;> first | (cases e; rfl) | omega, nl, _, 2, .str "BadPieces", rfl, rfl, .inl (.inl hn), atI_nat (j := 2) rfl, ?_⟩
        show tSeq _ _ _ _ (upd H3 nl (.lst [.str "BadWord", .str "BadBreaks", .str "BadPieces"]))
        generalize upd H3 nl (.lst [.str "BadWord", .str "BadBreaks", .str "BadPieces"]) = H4 at kn hn hm4 ek4 ⊢
        have kA := ((ka.trans km).trans kn)
        refine ⟨_, rfl, rfl, _, rfl, ?_⟩
        rw [decide_eq_false (show ¬ V.str "BadPieces" = V.str "BadBreaks" by decide)]
        refine ⟨_, rfl, rfl, _, rfl, ?_⟩
        rw [decide_eq_true (show V.str "BadPieces" = V.str "BadPieces" from rfl)]
        refine ⟨_, rfl, _, rfl, a, CP, _, v, rfl, ek4, C.xCP, C.fCP, rfl, v, dt, rfl, at_.dp, at_.sh.showable, at_.sh.noDict, Nat.le_trans at_.sh.depth (by decide), Nat.le_trans at_.sh.len (by decide), by show 2 ≤ sizeLine; decide, fun r nr => ?_⟩
        exact fin r _ kA nr
    · refine h _ (fun v H' hq => ?_)
      dsimp only [gName]
      refine ⟨_, rfl, rfl, _, rfl, ?_⟩
      rw [decide_eq_true (show V.non = V.non from rfl)]
      exact ⟨_, rfl, by show 2 ≤ sizeLine; decide, fun p np => hq p np⟩
end L56
set_option maxHeartbeats 2000000
namespace L56
open PySem PySem.Spec PyProof.Rows L2 HG PU LamX
structure Teller (K : PySem.W.Frag) (mg : Str → Option Value) (CE B CB CP : Addr) : Prop where
  ex : ∃ (g : Addr) (oc : Value) (od : Option Addr) (kV doc pm : Value) (an : Option Addr) (cdv ct : Value) (osl : Array (Option Value)),
    K.lookup g = some ⟨oc, od, .func (PySem.W.fnOf "_law_told" "_law_told" (defArgs s_l_told) (defBody s_l_told) (defScope s_l_told) .none kV doc pm an cdv ct), osl⟩ ∧
    PySem.W.codeIn K cdv "_law_told" = true ∧ PySem.W.keepIn K (.ref g) = true ∧ mg "_law_told" = some (.ref g) ∧
    Binds K (PySem.W.fnOf "_law_told" "_law_told" (defArgs s_l_told) (defBody s_l_told) (defScope s_l_told) .none kV doc pm an cdv ct) ["work"] []
  cl : Clss K mg CE B CB CP
theorem pe_told {X : Cx} {CE B CB CP c P : Addr} {T : List (Addr × Str)} {k : Nat} {params : Arguments} {body : Expr} {scope : Scope} {t : XK → TE} {p lpos pos : Pos}
    (G : Teller X.K X.mg CE B CB CP) (zs : X.mg "isinstance" = none) (zp : X.mg "repr" = none) (ng : NoG X.A) (TB : TabB X.base X.mg c P) (hcode : X.env.code = .ref c) (hmT : (P, X.env.qual ++ "<lambda>") ∈ T)
    (hu : ∀ p ∈ T, p.1 = P → p.2 = X.env.qual ++ "<lambda>") (hr : Room (k + 2) X.A) (hg : Gl X "_law_told") (L : LamS X.env.scope scope)
    (hdef : defaultsOf params X.env = ([], []))
    (hbind : ∀ (q : Str) (cl : List (Str × Addr)) (pm cv ctv : Value), bindArgs (PySem.W.kla_fn "<lambda>" q params body scope cl pm cv ctv) ⟨[], []⟩ = pure [])
    (hbody : ∀ (A : Around) (outer : List Env) (s : Shared) (H : Hp) (E : XK) (f c' : Addr), Room k (A.deeper (lamEnv X scope s.heap.objs.size f c')) → PE (lamCx X A outer s H E scope f c') body (t E)) :
    PE X (.Call (.Name "_law_told" p) [.Lambda params body scope lpos] [] pos) (tLam T (TTt X.K CE B CB CP) t) := by
  obtain ⟨g, oc, od, kV, doc, pm, an, cdv, ct, osl, lk, cd, kp, m, b⟩ := G.ex
  exact pe_lamcall hg m kp lk cd b sc_l_told rfl (.inl rfl) (told_gives G.cl zs zp (fun _ _ => ng) (fun _ _ => by
    have := hr.un
    show X.A.units + 3 + 66 < cLine
    omega)) TB hcode hmT hu hr L hdef hbind hbody
inductive AtD : D → PyData → Prop where
  | non : AtD .non .none
  | int (i : Nat) (h : i < 1000) : AtD (.int (i : Nat)) (.int (i : Nat))
inductive ToldD (B CB CP : Addr) : Addr → List Str → List D → Str → Str → Prop where
  | word : ToldD B CB CP B [] [] "BadWord" ""
  | breaks {d : D} {dt : PyData} (a : AtD d dt) : ToldD B CB CP CB ["at"] [d] "BadBreaks" dt.shown
  | pieces {d : D} {dt : PyData} (a : AtD d dt) : ToldD B CB CP CP ["at"] [d] "BadPieces" dt.shown
def uTold (K : PySem.W.Frag) (CE B CB CP : Addr) (xu : XD → TD) : TD := fun ρ n Q =>
  xu (fun c ns xs m => PySem.W.exmOne K (.ref c) (.ref CE) = some true ∧ ∃ nm txt, ToldD B CB CP c ns xs nm txt ∧ Q (.tup [.str nm, .str txt]) m) (fro ρ) n fun d m => Q (.tup [.str "fine", d]) m
theorem at_dd {K : PySem.W.Frag} {F : Hp} {v : V} {d : D} {dt : PyData} (h : Dd K F v d) (a : AtD d dt) : AtV v dt := by
  cases a with
  | non => cases h; exact .non
  | int i l => cases h; exact .int i l
theorem told_of {K : PySem.W.Frag} {B CB CP c : Addr} {ns : List Str} {xs : List D} {nm txt : Str} {dx : Option Addr} {F H : Hp} (td : ToldD B CB CP c ns xs nm txt) (l : Le F H)
    (ea : ExcA K F H dx ns xs) : Told B CB CP (.ref c) dx H nm txt := by
  rcases ea with ⟨e1, e2, e3⟩ | ⟨d, fs, e1, e2, e3, e4⟩
  · cases td with
    | word => exact .word rfl (.inl e1)
    | breaks a => cases e2
    | pieces a => cases e2
  · have hd : H d = some (.xd fs) := l _ _ e2 fun _ z => nomatch z
    cases td with
    | word =>
      have : fs = [] := List.map_eq_nil_iff.mp e3
      subst this
      exact .word rfl (.inr ⟨d, e1, hd⟩)
    | breaks a =>
      match fs, e3, e4, hd with
      | [(x, v)], e3, e4, hd =>
        have : x = "at" := by injection e3
        subst this
        cases e4 with
        | cons h _ => exact .breaks rfl e1 hd (at_dd h a)
    | pieces a =>
      match fs, e3, e4, hd with
      | [(x, v)], e3, e4, hd =>
        have : x = "at" := by injection e3
        subst this
        cases e4 with
        | cons h _ => exact .pieces rfl e1 hd (at_dd h a)
theorem ex_keep {F H H' : Hp} (l : Le F H) (k : Keep [] H H') : Ex p0 F H F H' :=
  ⟨Le.rfl, fun a o e t => k.toKeepW.all a o (l a o e t) (fun z => nomatch z) t, fun _ _ _ _ => rfl, k.toKeepW, fun _ a ps e => k.tbl a ps e⟩
theorem told_read {K : PySem.W.Frag} {C : Cn} {CE B CB CP : Addr} {T : List (Addr × Str)} {xu : XD → TD} (ok : C.Ok) (L : LamOk C T) (mo : ∀ Ed, Mo (xu Ed)) {σ : L2.St} {H : Hp} {Q : VK} (h : tE K C (uTold K CE B CB CP xu) σ H Q) :
    tLam T (TTt K CE B CB CP) (tX K C.toGh xu) σ H Q := by
  obtain ⟨F, ρ, n, rel, q⟩ := h
  refine ⟨L.tabs n H rel.m, fun H1 eN T1 H0 k0 NX hNX => ?_⟩
  have x1 := ex_lam L rel.le eN
  have m1 := L.re n H H1 rel.m eN T1
  have rel1 := rel.stepG x1 m1
  have x0 : Ex p0 F H1 F H0 := ex_keep x1.le k0
  have m0 := C.stay m1 x0
  have x10 := x1.tr x0.up0
  have rel0 := rel.stepG x10 m0
  refine ⟨F, H0, _, ⟨ok.sub, ok.fr rel0.x, fun b m => C.dm n H0 rel0.m b (ok.sub b m)⟩, ?_, F, fro ρ, n, rel0.fro, mo _ _ _ _ _ (fun d m q v F2 H2 x2 m2 dd => ?_) q⟩
  · intro c ns xs m dx F2 H2 ⟨hit, nm, txt, td, q⟩ x2 m2 ea
    refine ⟨hit, nm, txt, told_of td x2.le ea, fun r H'' kp nr => ?_⟩
    have x3 : Ex p0 F2 H2 F2 H'' := ex_keep x2.le kp
    have x4 : Ex p0 F2 H'' (upd F2 r (.tup [.str nm, .str txt])) (upd H'' r (.tup [.str nm, .str txt])) := Ex.newF x3.le nr
    exact q _ _ _ ((x10.tr x2).tr (x3.tr x4).up0) (C.stay m2 (x3.tr x4)) (dd_tupN (.cons (.str _) (.cons (.str _) .nil)) (x3.le.fr (fr0_none nr)))
  · refine hNX v H2 fun p np => ?_
    have x4 : Ex p0 F2 H2 (upd F2 p (.tup [.str "fine", v])) (upd H2 p (.tup [.str "fine", v])) := Ex.newF x2.le np
    exact q _ _ _ ((x10.tr x2).tr x4.up0) (C.stay m2 x4) (dd_tupN (.cons (.str _) (.cons dd .nil)) (x2.le.fr (fr0_none np)))
theorem mo_told {K : PySem.W.Frag} {CE B CB CP : Addr} {xu : XD → TD} (mo : ∀ Ed, Mo (xu Ed)) (mx : ∀ E E' ρ n Q, (∀ c ns xs m, E c ns xs m → E' c ns xs m) → xu E ρ n Q → xu E' ρ n Q) : Mo (uTold K CE B CB CP xu) := fun ρ n P Q i w =>
  mx _ _ _ _ _ (fun c ns xs m ⟨z, nm, txt, td, q⟩ => ⟨z, nm, txt, td, i _ _ q⟩) (mo _ _ _ _ _ (fun d m => i _ m) w)
section
variable {X : Cx} {C : Cn}
theorem ue_told {CE B CB CP c P : Addr} {T : List (Addr × Str)} {k : Nat} {params : Arguments} {body : Expr} {scope : Scope} {xu : XD → TD} {p lpos pos : Pos} (ok : C.Ok) (L : LamOk C T)
    (G : Teller X.K X.mg CE B CB CP) (zs : X.mg "isinstance" = none) (zp : X.mg "repr" = none) (ng : NoG X.A) (TB : TabB X.base X.mg c P) (hcode : X.env.code = .ref c) (hmT : (P, X.env.qual ++ "<lambda>") ∈ T)
    (hu : ∀ p ∈ T, p.1 = P → p.2 = X.env.qual ++ "<lambda>") (hr : Room (k + 2) X.A)
    (mo : ∀ Ed, Mo (xu Ed)) (mx : ∀ E E' ρ n Q, (∀ c ns xs m, E c ns xs m → E' c ns xs m) → xu E ρ n Q → xu E' ρ n Q)
    (hbody : ∀ (A : Around) (outer : List Env) (s : Shared) (H : Hp) (Ev : XK) (f c' : Addr) (F0 H0 : Hp) (E : XD), Room k (A.deeper (lamEnv X scope s.heap.objs.size f c')) → (cnOf C.toGh F0 H0).Ok → XOk X.K (cnOf C.toGh F0 H0) E Ev →
      UE (lamCx X A outer s H Ev scope f c') (cnOf C.toGh F0 H0) body (xu E))
    (hg : Gl X "_law_told" := by rfl) (Ls : LamS X.env.scope scope := by exact ⟨rfl, rfl, rfl, rfl⟩)
    (hdef : defaultsOf params X.env = ([], []) := by rfl)
    (hbind : ∀ (q : Str) (cl : List (Str × Addr)) (pm cv ctv : Value), bindArgs (PySem.W.kla_fn "<lambda>" q params body scope cl pm cv ctv) ⟨[], []⟩ = pure [] := by intros; rfl) :
    UE X C (.Call (.Name "_law_told" p) [.Lambda params body scope lpos] [] pos) (uTold X.K CE B CB CP xu) :=
  ⟨PEw (pe_told (t := tX X.K C.toGh xu) G zs zp ng TB hcode hmT hu hr hg Ls hdef hbind fun A outer s H E f c' hr => ⟨fun pins s1 σ H1 Q I ⟨F0, H0, Ed, ok', xo, q⟩ => (hbody A outer s H E f c' F0 H0 Ed hr ok' xo).run.run pins s1 σ H1 Q I q⟩) fun σ H Q h => told_read ok L mo h, mo_told mo mx⟩
end
end L56
set_option maxHeartbeats 4000000
namespace L56
open PySem PySem.Spec PyProof.Rows L2 HG PU LamX
abbrev qL : Str := (envOfC "law" (defScope s_law) 0 0 .none).qual ++ "<lambda>"
theorem cal_up {P : Program} {w : World} {K : PySem.W.Frag} {mg : Str → Option Value} {base : Heap} {CX : CXT} {j k : Nat} {x : Str} {ps : List Str} {ι : Type} {G : ι → Gh} {a : ι → SpD} (c : CalG P w K mg base CX j x ps G a) (h : j ≤ k) : CalG P w K mg base CX k x ps G a := by
  obtain ⟨⟨f, fd, F, m, kp, b, at_⟩, mo⟩ := c
  exact ⟨⟨f, fd, F.mono h, m, kp, b, at_⟩, mo⟩
end L56
set_option maxHeartbeats 2000000
namespace K56
open PySem PySem.Spec PyProof.Rows L2 HG
def topS (i : Nat) : Stmt := PySem.Challenge.pw_hitclocks_k56_words_put_in_and_taken_out.main.body.getD i (.Pass ⟨0, 0, 0, 0⟩)
theorem scope_by {N P : List Str} {sc : Scope} (kind : sc.kind = .function) (co : sc.isCoroutine = false)
    (gen : sc.isGenerator = false) (nd : N.Nodup) (pre : N.take P.length = P)
    (par : ∀ x ∈ P, sc.names.lookup x = some .local ∨ sc.names.lookup x = some .cell)
    (nofree : ∀ y ∈ sc.names, y.2 ≠ .free) : FnScope N P sc := ⟨kind, co, gen, nd, pre, par, nofree⟩
abbrev s_is_number : Stmt := topS 8
theorem sc_is_number : FnScope ["thing"] ["thing"] (defScope s_is_number) := scope_by rfl rfl rfl (by decide +kernel) rfl (by decide +kernel) (by decide +kernel)
abbrev s_is_number_from : Stmt := topS 9
theorem sc_is_number_from : FnScope ["thing", "low", "high"] ["thing", "low", "high"] (defScope s_is_number_from) := scope_by rfl rfl rfl (by decide +kernel) rfl (by decide +kernel) (by decide +kernel)
abbrev s_is_string_of : Stmt := topS 10
theorem sc_is_string_of : FnScope ["thing", "signs", "sign"] ["thing", "signs"] (defScope s_is_string_of) := scope_by rfl rfl rfl (by decide +kernel) rfl (by decide +kernel) (by decide +kernel)
abbrev s_is_letter : Stmt := topS 11
theorem sc_is_letter : FnScope ["thing"] ["thing"] (defScope s_is_letter) := scope_by rfl rfl rfl (by decide +kernel) rfl (by decide +kernel) (by decide +kernel)
abbrev s_is_list : Stmt := topS 12
theorem sc_is_list : FnScope ["thing"] ["thing"] (defScope s_is_list) := scope_by rfl rfl rfl (by decide +kernel) rfl (by decide +kernel) (by decide +kernel)
abbrev s_is_tuple_of : Stmt := topS 13
theorem sc_is_tuple_of : FnScope ["thing", "many"] ["thing", "many"] (defScope s_is_tuple_of) := scope_by rfl rfl rfl (by decide +kernel) rfl (by decide +kernel) (by decide +kernel)
abbrev s_is_pair : Stmt := topS 14
theorem sc_is_pair : FnScope ["thing"] ["thing"] (defScope s_is_pair) := scope_by rfl rfl rfl (by decide +kernel) rfl (by decide +kernel) (by decide +kernel)
abbrev s_is_word : Stmt := topS 16
theorem sc_is_word : FnScope ["thing", "letter"] ["thing"] (defScope s_is_word) := scope_by rfl rfl rfl (by decide +kernel) rfl (by decide +kernel) (by decide +kernel)
abbrev s_check_letters : Stmt := topS 17
theorem sc_check_letters : FnScope ["word"] ["word"] (defScope s_check_letters) := scope_by rfl rfl rfl (by decide +kernel) rfl (by decide +kernel) (by decide +kernel)
abbrev s_put_in : Stmt := topS 18
theorem sc_put_in : FnScope ["word", "breaks", "told", "ahead", "at", "item"] ["word", "breaks"] (defScope s_put_in) := scope_by rfl rfl rfl (by decide +kernel) rfl (by decide +kernel) (by decide +kernel)
abbrev s_taken_out : Stmt := topS 19
theorem sc_taken_out : FnScope ["word", "pieces", "rest", "breaks", "ahead", "at", "piece"] ["word", "pieces"] (defScope s_taken_out) := scope_by rfl rfl rfl (by decide +kernel) rfl (by decide +kernel) (by decide +kernel)
abbrev s_l_begun : Stmt := topS 21
theorem sc_l_begun : FnScope ["script", "large", "cell"] ["script"] (defScope s_l_begun) := scope_by rfl rfl rfl (by decide +kernel) rfl (by decide +kernel) (by decide +kernel)
abbrev s_l_mixed : Stmt := topS 22
theorem sc_l_mixed : FnScope ["state", "found", "prime", "blend", "cell"] ["state"] (defScope s_l_mixed) := scope_by rfl rfl rfl (by decide +kernel) rfl (by decide +kernel) (by decide +kernel)
abbrev s_l_take : Stmt := topS 23
theorem sc_l_take : FnScope ["state", "size", "found"] ["state", "size"] (defScope s_l_take) := scope_by rfl rfl rfl (by decide +kernel) rfl (by decide +kernel) (by decide +kernel)
abbrev s_l_pick : Stmt := topS 24
theorem sc_l_pick : FnScope ["state", "some"] ["state", "some"] (defScope s_l_pick) := scope_by rfl rfl rfl (by decide +kernel) rfl (by decide +kernel) (by decide +kernel)
abbrev s_l_letters : Stmt := topS 25
theorem sc_l_letters : FnScope ["state", "many", "signs", "found", "k", "label", "near"] ["state", "many"] (defScope s_l_letters) := scope_by rfl rfl rfl (by decide +kernel) rfl (by decide +kernel) (by decide +kernel)
abbrev s_l_word : Stmt := topS 26
theorem sc_l_word : FnScope ["state", "letters", "most"] ["state", "letters", "most"] (defScope s_l_word) := scope_by rfl rfl rfl (by decide +kernel) rfl (by decide +kernel) (by decide +kernel)
abbrev s_l_count : Stmt := topS 27
theorem sc_l_count : FnScope ["thing", "least", "most"] ["thing", "least", "most"] (defScope s_l_count) := scope_by rfl rfl rfl (by decide +kernel) rfl (by decide +kernel) (by decide +kernel)
abbrev s_l_is_word : Stmt := topS 28
theorem sc_l_is_word : FnScope ["thing", "signs", "one"] ["thing"] (defScope s_l_is_word) := scope_by rfl rfl rfl (by decide +kernel) rfl (by decide +kernel) (by decide +kernel)
abbrev s_l_put : Stmt := topS 29
theorem sc_l_put : FnScope ["word", "breaks", "found", "at", "gap", "inner"] ["word", "breaks"] (defScope s_l_put) := scope_by rfl rfl rfl (by decide +kernel) rfl (by decide +kernel) (by decide +kernel)
abbrev s_l_left : Stmt := topS 30
theorem sc_l_left : FnScope ["word", "pieces", "kept", "start", "size", "breaks"] ["word", "pieces"] (defScope s_l_left) := scope_by rfl rfl rfl (by decide +kernel) rfl (by decide +kernel) (by decide +kernel)
abbrev s_l_first : Stmt := topS 31
theorem sc_l_first : FnScope ["word", "things", "is_break", "least", "at", "item"] ["word", "things", "is_break"] (defScope s_l_first) := scope_by rfl rfl rfl (by decide +kernel) rfl (by decide +kernel) (by decide +kernel)
abbrev s_l_bent : Stmt := topS 32
theorem sc_l_bent : FnScope ["state", "word", "things", "is_break", "at", "size", "gap", "inner", "spot", "item", "bent"] ["state", "word", "things", "is_break"] (defScope s_l_bent) := scope_by rfl rfl rfl (by decide +kernel) rfl (by decide +kernel) (by decide +kernel)
abbrev s_l_told : Stmt := topS 33
theorem sc_l_told : FnScope ["work", "error", "found", "e", "marks", "word"] ["work"] (defScope s_l_told) := scope_by rfl rfl rfl (by decide +kernel) rfl (by decide +kernel) (by decide +kernel)
abbrev s_law : Stmt := topS 34
theorem sc_law : FnScope ["script", "state", "turn", "letters", "gaps", "breaks", "ends", "pieces", "due", "told", "back", "lap", "at", "right", "bad", "bent", "some", "word"] ["script"] (defScope s_law) := scope_by rfl rfl rfl (by decide +kernel) rfl (by decide +kernel) (by decide +kernel)
end K56
set_option maxHeartbeats 2000000
namespace HG
open PySem PySem.Spec PyProof.Rows L2
/-- a number, or none -/
def NumO (ex : List Addr) (K : PySem.W.Frag) (H : Hp) (v : V) : Option Int → Prop
  | some i => v = .int i
  | none => NumB ex K H v false
def within (lo hi : Int) : Option Int → Bool
  | some i => decide (lo ≤ i) && decide (i ≤ hi)
  | none => false
theorem own_one {K : PySem.W.Frag} {C : Addr} : PySem.W.kitOne K (.ref C) (.ref C) = some true := by
  unfold PySem.W.kitOne
  rw [if_pos (by simp)]
/-- a value as a number, or none, as long as it stands -/
def NumX (ex : List Addr) (K : PySem.W.Frag) (H : Hp) (v : V) : Option Int → Prop
  | some i => v = .int i
  | none => ∃ T, Any ex K H v T ∧ ((kitB T "int" = some false ∧ kitB T "bool" = some false) ∨ (kitB T "int" = some true ∧ kitB T "bool" = some true))
def TextX (ex : List Addr) (K : PySem.W.Frag) (H : Hp) (v : V) : Option Str → Prop
  | some z => v = .str z ∧ z.length ≤ 1000
  | none => ∃ T, Any ex K H v T ∧ kitB T "str" = some false
/-- a value as a tuple of values, each a text or none -/
inductive WordX (ex : List Addr) (K : PySem.W.Frag) (H : Hp) : V → Option (List (Option Str)) → Prop where
  | no {v : V} {T : String} (h : Any ex K H v T) (k : kitB T "tuple" = some false) : WordX ex K H v none
  | yes {a : Addr} {xs : List V} {os : List (Option Str)} (h : SqT K H a xs) (len : xs.length = os.length) (all : ∀ (i : Nat) (y : V), xs[i]? = some y → ∃ o : Option Str, os[i]? = some o ∧ TextX ex K H y o) : WordX ex K H (.ref a) (some os)
section
variable {ex : List Addr} {K : PySem.W.Frag} {H H' : Hp} {v : V}
theorem NumX.keep {o : Option Int} (h : NumX ex K H v o) (k : KeepW ex H H') : NumX ex K H' v o := by
  cases o with
  | some i => exact h
  | none =>
    obtain ⟨T, h, r⟩ := h
    exact ⟨T, h.keep k, r⟩
theorem NumX.num {o : Option Int} (h : NumX ex K H v o) : NumO [] K H v o := by
  cases o with
  | some i => exact h
  | none =>
    obtain ⟨T, h, ⟨e1, e2⟩ | ⟨e1, e2⟩⟩ := h
    · exact h.num e1 e2
    · exact h.num e1 e2
theorem TextX.keep {o : Option Str} (h : TextX ex K H v o) (k : KeepW ex H H') : TextX ex K H' v o := by
  cases o with
  | some i => exact h
  | none =>
    obtain ⟨T, h, r⟩ := h
    exact ⟨T, h.keep k, r⟩
theorem WordX.keep {o : Option (List (Option Str))} (h : WordX ex K H v o) (k : KeepW ex H H') : WordX ex K H' v o := by
  cases h with
  | no h r => exact .no (h.keep k) r
  | yes h l all =>
    refine .yes (sqT_keep k h) l (fun i y hy => ?_)
    obtain ⟨o, e, t⟩ := all i y hy
    exact ⟨o, e, t.keep k⟩
theorem WordX.of {a : Addr} {W : List Str} (h : SqT K H a (W.map V.str)) (sm : ∀ z ∈ W, z.length ≤ 1000) : WordX ex K H (.ref a) (some (W.map some)) :=
  .yes h (by simp) fun i y hy => by
    rw [List.getElem?_map] at hy
    obtain ⟨z, hz, rfl⟩ := Option.map_eq_some_iff.mp hy
    exact ⟨some z, by rw [List.getElem?_map, hz]; rfl, rfl, sm z (List.mem_of_getElem? hz)⟩
end
end HG
namespace K56
open PySem PySem.Spec PyProof.Rows L2 HG HN
def signsS : Str := "ABCDEFGHIJKLMNOPQRSTUVWXYZabcdefghijklmnopqrstuvwxyz0123456789."
def signB (z : Str) : Bool := decide (1 ≤ z.length) && decide (z.length ≤ 12) && z.cps.toList.all fun c => decide (c ∈ signsS.cps.toList)
def letB : Option Str → Bool
  | some z => signB z
  | none => false
def wordB : Option (List (Option Str)) → Bool
  | some os => os.all letB
  | none => false
structure Consts (mg : Str → Option Value) : Prop where
  signs : ∃ t, mg "LETTER_SIGNS" = some (.str signsS t)
  long : ∃ t, mg "LONGEST_SIGNS" = some (.int 12 t)
section
variable {P : Program} {w : World} {K : PySem.W.Frag} {mg : Str → Option Value} {base : Heap}
def sp_isnum (K : PySem.W.Frag) : Sp := fun vs H Q _ => ∃ v b, vs = [v] ∧ NumB [] K H v b ∧ Q (.bl b) H
theorem ok_isnum (D : Def K mg "is_number" s_is_number ["thing"]) (zs : mg "isinstance" = none) (zi : mg "int" = none) (zb : mg "bool" = none) :
    Callee P w K mg base CX0 1 "is_number" ["thing"] (sp_isnum K) := by
  refine D.ok sc_is_number (fun vs H Q E h => ?_) (fun f cdv A outer s H vs Q E hr h => ?_)
  · obtain ⟨v, b, rfl, _⟩ := h
    rfl
  · obtain ⟨v, b, rfl, ⟨_, T, b1, b2, t, e1, e2, rfl⟩, q⟩ := h
    refine ⟨_, pss_one (ps_ret (pe_and (pe_callB call_isi (by rfl) zs (by decide +kernel) (pa_cons (pv 0) (pa_cons (pe_bltn (v := .ty "int") (by rfl) zi (by decide +kernel) rfl) pa_nil)))
      (pe_one (pe_not (pe_callB call_isi (by rfl) zs (by decide +kernel) (pa_cons (pv 0) (pa_cons (pe_bltn (v := .ty "bool") (by rfl) zb (by decide +kernel) rfl) pa_nil))))))), ?_⟩
    refine ⟨v, rfl, _, _, _, _, b1, rfl, .ty "int", t, kit_some e1, b1, rfl, ?_⟩
    cases b1 with
    | false => exact q
    | true => exact ⟨v, rfl, _, _, _, _, b2, rfl, .ty "bool", t, kit_some e2, b2, rfl, q⟩
def sp_numfrom (K : PySem.W.Frag) : Sp := fun vs H Q _ => ∃ v o lo hi, vs = [v, .int lo, .int hi] ∧ NumO [] K H v o ∧ Q (.bl (within lo hi o)) H
theorem ok_numfrom (D : Def K mg "is_number_from" s_is_number_from ["thing", "low", "high"]) (CN : Callee P w K mg base CX0 1 "is_number" ["thing"] (sp_isnum K)) :
    Callee P w K mg base CX0 2 "is_number_from" ["thing", "low", "high"] (sp_numfrom K) := by
  refine D.ok sc_is_number_from (fun vs H Q E h => ?_) (fun f cdv A outer s H vs Q E hr h => ?_)
  · obtain ⟨v, o, lo, hi, rfl, _⟩ := h
    rfl
  · obtain ⟨v, o, lo, hi, rfl, n, q⟩ := h
    refine ⟨_, pss_one (ps_ret (pe_and (pe_c CN hr (pa_cons (pv 0) pa_nil)) (pe_one (pe_chain op_le op_le (pv 1) (pv 0) (pv 2))))), ?_⟩
    cases o with
    | none => exact ⟨v, rfl, v, false, rfl, n, false, rfl, q⟩
    | some i =>
      have n : v = .int i := n
      subst n
      refine ⟨_, rfl, _, true, rfl, .int i, true, rfl, _, rfl, _, rfl, _, _, rfl, rfl, _, rfl, ?_⟩
      by_cases c : lo ≤ i
      · rw [if_pos (decide_eq_true c)]
        refine ⟨_, rfl, _, _, rfl, rfl, ?_⟩
        have e : within lo hi (some i) = decide (i ≤ hi) := by
          show (decide (lo ≤ i) && decide (i ≤ hi)) = _
          rw [decide_eq_true c]
          rfl
        rw [e] at q
        exact q
      · rw [if_neg (fun z => c (of_decide_eq_true z))]
        have e : within lo hi (some i) = false := by
          show (decide (lo ≤ i) && decide (i ≤ hi)) = _
          rw [decide_eq_false c]
          rfl
        rw [e] at q
        exact q
/-- is it a text of signs? -/
def sp_string (K : PySem.W.Frag) : Sp := fun vs H Q _ => ∃ v o, vs = [v, .str signsS] ∧ TextX [] K H v o ∧ Q (.bl (letB o)) H
theorem ok_string (D : Def K mg "is_string_of" s_is_string_of ["thing", "signs"]) (c : Consts mg) (zs : mg "isinstance" = none) (zt : mg "str" = none) (zl : mg "len" = none) :
    Callee P w K mg base CX0 1 "is_string_of" ["thing", "signs"] (sp_string K) := by
  refine D.ok sc_is_string_of (fun vs H Q E h => ?_) (fun f cdv A outer s H vs Q E hr h => ?_)
  · obtain ⟨v, o, rfl, _⟩ := h
    rfl
  · obtain ⟨v, o, rfl, tx, q⟩ := h
    have nd := sc_is_string_of.nd
    obtain ⟨tl, ml⟩ := c.long
    refine ⟨_, pss_cons (ps_if (PW.pt (pw_or (pt_not (pt_val (pe_callB call_isi (by rfl) zs (by decide +kernel) (pa_cons (pv 0) (pa_cons (pe_bltn (v := .ty "str") (by rfl) zt (by decide +kernel) rfl) pa_nil)))))
        (pw_or1 (pt_not (pt_chain op_le op_le pe_int (pe_callB call_len_str (by rfl) zl PySem.boot_len (pa_cons (pv 0) pa_nil)) (pe_glob (v := .int 12) rfl ml ⟨tl, rfl⟩))))))
        (pss_one (ps_ret pe_bl)) pss_nil)
      (pss_cons (ps_for PassesOwn.never rfl (pi_str (pv 0)) (pg_name (i := 2) nd rfl (.inl rfl))
        (pss_one (ps_if (pt_cmpR op_notIn_sign (pv 2) (pv 1) (by rfl)) (pss_one (ps_ret pe_bl)) pss_nil)))
      (pss_one (ps_ret pe_bl))), ?_⟩
    cases o with
    | none =>
      obtain ⟨T, hT, k⟩ := tx
      exact ⟨_, rfl, _, _, _, _, false, rfl, .ty "str", hT.ty, kit_some k, false, rfl, q⟩
    | some z =>
      obtain ⟨rfl, zsm⟩ : v = .str z ∧ z.length ≤ 1000 := tx
      refine ⟨_, rfl, _, _, _, _, true, rfl, .ty "str", .base (.str z), kit_some (by decide +kernel), true, rfl, ?_⟩
      refine ⟨_, rfl, z, rfl, Nat.le_trans zsm (by decide), _, _, rfl, rfl, _, rfl, ?_⟩
      have e : letB (some z) = (decide (1 ≤ z.length) && decide (z.length ≤ 12) && z.cps.toList.all fun c => decide (c ∈ signsS.cps.toList)) := rfl
      rw [e] at q
      by_cases l1 : 1 ≤ z.length
      · rw [if_pos (decide_eq_true (show (1 : Int) ≤ z.length by omega))]
        refine ⟨_, _, rfl, rfl, _, rfl, ?_⟩
        by_cases l12 : z.length ≤ 12
        · rw [decide_eq_true (show (z.length : Int) ≤ 12 by omega)]
          rw [decide_eq_true l1, decide_eq_true l12, Bool.true_and, Bool.true_and] at q
          refine ⟨_, rfl, z, rfl, for_it walk_str (fun i σ H' => ∃ v, σ = [some (.str z), some (.str signsS), v] ∧ H = H' ∧ ∀ (j : Nat) c, j < i → z.cps[j]? = some c → c ∈ signsS.cps.toList) ⟨none, rfl, rfl, fun j c lt => absurd lt (Nat.not_lt_zero _)⟩ (fun _ _ _ _ _ => trivial) (fun i x σ H1 H2 lt hh y => ?_) (fun σ H' hh => ?_)⟩
          · obtain ⟨v, rfl, rfl, done⟩ := hh
            obtain ⟨rfl, c, at_, rfl⟩ := y
            dsimp only [gName]
            refine ⟨_, rfl, _, rfl, c, signsS, rfl, rfl, ?_⟩
            by_cases mem : c ∈ signsS.cps.toList
            · rw [decide_eq_true mem]
              refine ⟨_, rfl, _, rfl, rfl, fun j d lj hj => ?_⟩
              by_cases ji : j = i
              · subst ji
                rw [at_] at hj
                cases hj
                exact mem
              · exact done j d (by omega) hj
            · rw [decide_eq_false mem]
              have f : (z.cps.toList.all fun c => decide (c ∈ signsS.cps.toList)) = false := by
                rw [List.all_eq_false]
                refine ⟨c, ?_, by rw [decide_eq_false mem]; decide⟩
                obtain ⟨lt2, e2⟩ := Array.getElem?_eq_some_iff.mp at_
                rw [← e2]
                exact Array.mem_toList_iff.mpr (Array.getElem_mem lt2)
              rw [f] at q
              exact ⟨true, rfl, q⟩
          · obtain ⟨v, rfl, rfl, done⟩ := hh
            have f : (z.cps.toList.all fun c => decide (c ∈ signsS.cps.toList)) = true := by
              rw [List.all_eq_true]
              intro c hc
              obtain ⟨j, lj, ej⟩ := List.mem_iff_getElem.mp hc
              refine decide_eq_true (done j c (by rw [Array.length_toList] at lj; exact lj) ?_)
              rw [← Array.getElem?_toList, List.getElem?_eq_getElem lj, ej]
            rw [f] at q
            exact q
        · rw [decide_eq_false (show ¬ (z.length : Int) ≤ 12 by omega)]
          rw [decide_eq_false l12, Bool.and_false, Bool.false_and] at q
          exact q
      · rw [if_neg (fun h => l1 (by have := of_decide_eq_true h; omega))]
        rw [decide_eq_false l1, Bool.false_and, Bool.false_and] at q
        exact ⟨false, rfl, q⟩
end
end K56
set_option maxHeartbeats 2000000
namespace HG
open PySem PySem.Spec PyProof.Rows L2
theorem kit_list {K : PySem.W.Frag} {T : String} {b1 b2 : Bool} (e1 : kitB T "list" = some b1) (e2 : kitB T "tuple" = some b2) : PySem.W.kitAny K (.type T) [.type "list", .type "tuple"] = some (b1 || b2) := by
  unfold PySem.W.kitAny
  rw [kit_some e1]
  cases b1 with
  | true => rfl
  | false =>
    show PySem.W.kitAny K (.type T) [.type "tuple"] = some (false || b2)
    unfold PySem.W.kitAny
    rw [kit_some e2]
    cases b2 <;> rfl
end HG
namespace K56
open PySem PySem.Spec PyProof.Rows L2 HG HN
section
variable {P : Program} {w : World} {K : PySem.W.Frag} {mg : Str → Option Value} {base : Heap}
def sp_letter (K : PySem.W.Frag) : Sp := fun vs H Q _ => ∃ v o, vs = [v] ∧ TextX [] K H v o ∧ Q (.bl (letB o)) H
theorem ok_letter (D : Def K mg "is_letter" s_is_letter ["thing"]) (c : Consts mg) (CS : Callee P w K mg base CX0 1 "is_string_of" ["thing", "signs"] (sp_string K)) :
    Callee P w K mg base CX0 2 "is_letter" ["thing"] (sp_letter K) := by
  refine D.ok sc_is_letter (fun vs H Q E h => ?_) (fun f cdv A outer s H vs Q E hr h => ?_)
  · obtain ⟨v, o, rfl, _⟩ := h
    rfl
  · obtain ⟨v, o, rfl, tx, q⟩ := h
    obtain ⟨t, m⟩ := c.signs
    refine ⟨_, pss_one (ps_ret (pe_c CS hr (pa_cons (pv 0) (pa_cons (pe_glob (v := .str signsS) rfl m ⟨t, rfl⟩) pa_nil)))), ?_⟩
    exact ⟨_, rfl, v, o, rfl, tx, q⟩
/-- list or tuple? -/
def sp_islist (K : PySem.W.Frag) : Sp := fun vs H Q _ => ∃ v T b1 b2, vs = [v] ∧ TyX K H v (.type T) ∧ kitB T "list" = some b1 ∧ kitB T "tuple" = some b2 ∧ ∀ H', Keep [] H H' → Q (.bl (b1 || b2)) H'
theorem ok_islist (D : Def K mg "is_list" s_is_list ["thing"]) (zs : mg "isinstance" = none) (zl : mg "list" = none) (zt : mg "tuple" = none) : Callee P w K mg base CX0 1 "is_list" ["thing"] (sp_islist K) := by
  refine D.ok sc_is_list (fun vs H Q E h => ?_) (fun f cdv A outer s H vs Q E hr h => ?_)
  · obtain ⟨v, T, b1, b2, rfl, _⟩ := h
    rfl
  · obtain ⟨v, T, b1, b2, rfl, ty, e1, e2, q⟩ := h
    refine ⟨_, pss_one (ps_ret (pe_callB call_isiT (by rfl) zs (by decide +kernel) (pa_cons (pv 0) (pa_cons (pe_tup (pa_cons (pe_bltn (v := .ty "list") (by rfl) zl (by decide +kernel) rfl) (pa_cons (pe_bltn (v := .ty "tuple") (by rfl) zt (by decide +kernel) rfl) pa_nil))) pa_nil)))), ?_⟩
    refine ⟨_, rfl, by show 2 ≤ sizeLine; decide, fun t nt => ?_⟩
    have k : Keep [] H (upd H t (.tup [.ty "list", .ty "tuple"])) := Keep.new nt
    exact ⟨_, t, _, .type T, [.type "list", .type "tuple"], _, rfl, upd_same, .cons (.ty _) (.cons (.ty _) .nil), tyX_keep k.toKeepW (fun _ _ m => nomatch m) ty, kit_list e1 e2, q _ k⟩
def sp_tupN (K : PySem.W.Frag) : Sp := fun vs H Q _ => ∃ v n, vs = [v, .int n] ∧ ((∃ T, TyX K H v (.type T) ∧ kitB T "tuple" = some false ∧ Q (.bl false) H) ∨ ∃ a xs, v = .ref a ∧ SqT K H a xs ∧ Q (.bl (decide ((xs.length : Int) = n))) H)
theorem ok_tupN (D : Def K mg "is_tuple_of" s_is_tuple_of ["thing", "many"]) (zs : mg "isinstance" = none) (zt : mg "tuple" = none) (zl : mg "len" = none) :
    Callee P w K mg base CX0 1 "is_tuple_of" ["thing", "many"] (sp_tupN K) := by
  refine D.ok sc_is_tuple_of (fun vs H Q E h => ?_) (fun f cdv A outer s H vs Q E hr h => ?_)
  · obtain ⟨v, n, rfl, _⟩ := h
    rfl
  · obtain ⟨v, n, rfl, h⟩ := h
    refine ⟨_, pss_one (ps_ret (pe_and (pe_callB call_isi (by rfl) zs (by decide +kernel) (pa_cons (pv 0) (pa_cons (pe_bltn (v := .ty "tuple") (by rfl) zt (by decide +kernel) rfl) pa_nil)))
      (pe_one (pe_cmpR op_eq (pe_callB call_len_seq (by rfl) zl PySem.boot_len (pa_cons (pv 0) pa_nil)) (pv 1) (nomark _))))), ?_⟩
    rcases h with ⟨T, ty, k, q⟩ | ⟨a, xs, rfl, hx, q⟩
    · exact ⟨_, rfl, _, _, _, _, false, rfl, .ty "tuple", ty, kit_some k, false, rfl, q⟩
    · refine ⟨_, rfl, _, _, _, _, true, rfl, .ty "tuple", tyX_tup hx, kit_some (by decide +kernel), true, rfl, _, rfl, _, _, rfl, .inr hx, _, rfl, rfl, ?_⟩
      simpa using q
/-- is it a word? -/
def sp_isword (K : PySem.W.Frag) : Sp := fun vs H Q _ => ∃ v o, vs = [v] ∧ WordX [] K H v o ∧ Q (.bl (wordB o)) H
theorem ok_isword (D : Def K mg "is_word" s_is_word ["thing"]) (zs : mg "isinstance" = none) (zt : mg "tuple" = none) (CL : Callee P w K mg base CX0 2 "is_letter" ["thing"] (sp_letter K)) :
    Callee P w K mg base CX0 3 "is_word" ["thing"] (sp_isword K) := by
  refine D.ok sc_is_word (fun vs H Q E h => ?_) (fun f cdv A outer s H vs Q E hr h => ?_)
  · obtain ⟨v, o, rfl, _⟩ := h
    rfl
  · obtain ⟨v, o, rfl, hw, q⟩ := h
    have nd := sc_is_word.nd
    refine ⟨_, pss_cons (ps_if (pt_not (pt_val (pe_callB call_isi (by rfl) zs (by decide +kernel) (pa_cons (pv 0) (pa_cons (pe_bltn (v := .ty "tuple") (by rfl) zt (by decide +kernel) rfl) pa_nil))))) (pss_one (ps_ret pe_bl)) pss_nil)
      (pss_cons (ps_for PassesOwn.never rfl (pi_tup (pv 0)) (pg_name (i := 1) nd rfl (.inl rfl)) (pss_one (ps_if (pt_not (pt_val (pe_c CL hr (pa_cons (pv 1) pa_nil)))) (pss_one (ps_ret pe_bl)) pss_nil)))
      (pss_one (ps_ret pe_bl))), ?_⟩
    cases hw with
    | no h k => exact ⟨_, rfl, _, _, _, _, false, rfl, .ty "tuple", h.ty, kit_some k, false, rfl, q⟩
    | @yes a xs os h len all =>
      refine ⟨_, rfl, _, _, _, _, true, rfl, .ty "tuple", tyX_tup h, kit_some (by decide +kernel), true, rfl, ?_⟩
      refine ⟨_, rfl, a, rfl, ⟨_, h⟩, for_tup (xs := xs) (fun i σ H' => ∃ u, σ = [some (.ref a), u] ∧ H = H' ∧ ∀ (j : Nat) o, j < i → os[j]? = some o → letB o = true) ⟨none, rfl, rfl, fun j o lt => absurd lt (Nat.not_lt_zero _)⟩ (fun i σ H' _ hh => ?_) (fun i y σ H' hy hh => ?_) (fun σ H' hh => ?_)⟩
      · obtain ⟨_, _, rfl, _⟩ := hh
        exact h
      · obtain ⟨u, rfl, rfl, done⟩ := hh
        obtain ⟨o, ho, tx⟩ := all i y hy
        dsimp only [gName]
        refine ⟨_, rfl, y, o, rfl, tx, ?_⟩
        cases e : letB o with
        | true =>
          refine ⟨true, rfl, _, rfl, rfl, fun j o' lt e' => ?_⟩
          by_cases ji : j = i
          · subst ji
            rw [ho] at e'
            cases e'
            exact e
          · exact done j o' (by omega) e'
        | false =>
          have f : wordB (some os) = false := by
            show os.all letB = false
            rw [List.all_eq_false]
            exact ⟨o, List.mem_of_getElem? ho, by rw [e]; decide⟩
          rw [f] at q
          exact ⟨false, rfl, q⟩
      · obtain ⟨u, rfl, rfl, done⟩ := hh
        have f : wordB (some os) = true := by
          show os.all letB = true
          rw [List.all_eq_true]
          intro o ho
          obtain ⟨j, lt, e⟩ := List.mem_iff_getElem.mp ho
          exact done j o (by omega) (by rw [List.getElem?_eq_getElem lt, e])
        rw [f] at q
        exact q
def sp_ckletters (K : PySem.W.Frag) (B : Addr) : Sp := fun vs H Q E => ∃ v o, vs = [v] ∧ WordX [] K H v o ∧ (wordB o = true → Q .non H) ∧ (wordB o = false → E (.ref B) none H)
theorem ok_ckletters {B : Addr} (D : Def K mg "check_letters" s_check_letters ["word"]) (eB : ErrC K mg "BadWord" B) (CW : Callee P w K mg base CX0 3 "is_word" ["thing"] (sp_isword K)) :
    Callee P w K mg base (L2.CX P w) 4 "check_letters" ["word"] (sp_ckletters K B) := by
  refine D.okX sc_check_letters (fun vs H Q E h => ?_) (fun f cdv A outer s H vs Q E hr h => ?_)
  · obtain ⟨v, o, rfl, _⟩ := h
    rfl
  · obtain ⟨v, o, rfl, hw, yes, no⟩ := h
    refine ⟨_, pss_one (ps_if (pt_not (pt_val (pe_c CW hr (pa_cons (pv 0) pa_nil)))) (pss_one (ps_raise rfl (takes_of rfl rfl rfl rfl) (pmk_err eB))) pss_nil), ?_⟩
    refine ⟨_, rfl, v, o, rfl, hw, ?_⟩
    cases e : wordB o with
    | true => exact ⟨true, rfl, yes e⟩
    | false => exact ⟨false, rfl, no e⟩
end
end K56
set_option maxHeartbeats 2000000
namespace K56
open PySem PySem.Spec PyProof.Rows L2 HG HN
/-! ## items of rows of breaks or pieces -/
inductive It where
  | bad
  | two (n : Option Int) (w : Option (List (Option Str))) (m : Option Int)
inductive ItX (ex : List Addr) (K : PySem.W.Frag) (H : Hp) : V → It → Prop where
  | no {v : V} {T : String} (h : Any ex K H v T) (k : kitB T "tuple" = some false) : ItX ex K H v .bad
  | len {a : Addr} {xs : List V} (h : SqT K H a xs) (n : xs.length ≠ 2) : ItX ex K H (.ref a) .bad
  | two {a : Addr} {x y : V} {n m : Option Int} {w : Option (List (Option Str))} (h : SqT K H a [x, y]) (hx : NumX ex K H x n) (hw : WordX ex K H y w) (hy : NumX ex K H y m) : ItX ex K H (.ref a) (.two n w m)
/-- the row of things itself -/
inductive ThX (ex : List Addr) (K : PySem.W.Frag) (H : Hp) : V → Option (List It) → Prop where
  | no {v : V} {T : String} (h : Any ex K H v T) (k1 : kitB T "list" = some false) (k2 : kitB T "tuple" = some false) : ThX ex K H v none
  | yes {a : Addr} {xs : List V} {its : List It} (h : SqX K H a xs) (na : a ∉ ex) (len : xs.length = its.length) (all : ∀ (i : Nat) (y : V), xs[i]? = some y → ∃ t, its[i]? = some t ∧ ItX ex K H y t) : ThX ex K H (.ref a) (some its)
def Lt (K : PySem.W.Frag) (H : Hp) (v : V) (L : List Str) : Prop := ∃ p, v = .ref p ∧ SqT K H p (L.map V.str)
section
variable {ex : List Addr} {K : PySem.W.Frag} {H H' : Hp} {v : V}
theorem Lt.keep {L : List Str} (k : KeepW ex H H') (h : Lt K H v L) : Lt K H' v L := by
  obtain ⟨p, e, q⟩ := h
  exact ⟨p, e, sqT_keep k q⟩
theorem ItX.keep {t : It} (h : ItX ex K H v t) (k : KeepW ex H H') : ItX ex K H' v t := by
  cases h with
  | no h r => exact .no (h.keep k) r
  | len h n => exact .len (sqT_keep k h) n
  | two h hx hw hy => exact .two (sqT_keep k h) (hx.keep k) (hw.keep k) (hy.keep k)
theorem ThX.keep {t : Option (List It)} (h : ThX ex K H v t) (k : KeepW ex H H') : ThX ex K H' v t := by
  cases h with
  | no h r s => exact .no (h.keep k) r s
  | yes h na len all =>
    refine .yes (h.keep k na) na len (fun i y hy => ?_)
    obtain ⟨t, e, r⟩ := all i y hy
    exact ⟨t, e, r.keep k⟩
theorem Any.nil {T : String} (h : Any ex K H v T) : Any [] K H v T := by
  cases h with
  | of o t => exact .of (fun _ _ m => nomatch m) t
  | tup h => exact .tup h
theorem TextX.nil {o : Option Str} (h : TextX ex K H v o) : TextX [] K H v o := by
  cases o with
  | some z => exact h
  | none =>
    obtain ⟨T, h, r⟩ := h
    exact ⟨T, Any.nil h, r⟩
theorem NumX.nil {o : Option Int} (h : NumX ex K H v o) : NumX [] K H v o := by
  cases o with
  | some z => exact h
  | none =>
    obtain ⟨T, h, r⟩ := h
    exact ⟨T, Any.nil h, r⟩
theorem WordX.nil {o : Option (List (Option Str))} (h : WordX ex K H v o) : WordX [] K H v o := by
  cases h with
  | no h r => exact .no (Any.nil h) r
  | yes h len all =>
    refine .yes h len (fun i y hy => ?_)
    obtain ⟨t, e, r⟩ := all i y hy
    exact ⟨t, e, TextX.nil r⟩
theorem ItX.nil {t : It} (h : ItX ex K H v t) : ItX [] K H v t := by
  cases h with
  | no h r => exact .no (Any.nil h) r
  | len h n => exact .len h n
  | two h hx hw hy => exact .two h (NumX.nil hx) (WordX.nil hw) (NumX.nil hy)
theorem ThX.nil {t : Option (List It)} (h : ThX ex K H v t) : ThX [] K H v t := by
  cases h with
  | no h r s => exact .no (Any.nil h) r s
  | yes h na len all =>
    refine .yes h (fun m => nomatch m) len (fun i y hy => ?_)
    obtain ⟨t, e, r⟩ := all i y hy
    exact ⟨t, e, ItX.nil r⟩
end
/-! ## what is due, by data -/
def brk (ahead len : Nat) : It → Option (Nat × List Str)
  | .two n w _ => if (within ahead len n && wordB w) = true then some ((n.getD 0).toNat, (w.getD []).filterMap id) else none
  | .bad => none
def putRun (W : List Str) : List Str → Nat → Nat → List It → Except Nat (List Str)
  | told, ahead, _, [] => .ok (told ++ W.drop ahead)
  | told, ahead, i, t :: r => match brk ahead W.length t with
    | some (n, U) => putRun W (told ++ ((W.drop ahead).take (n - ahead) ++ U)) n (i + 1) r
    | none => .error i
theorem all_some : ∀ {os : List (Option Str)}, (∀ o ∈ os, letB o = true) → os = (os.filterMap id).map some
  | [], _ => rfl
  | none :: r, all => absurd (all none List.mem_cons_self) (by decide)
  | some z :: r, all => congrArg (some z :: ·) (all_some fun o m => all o (List.mem_cons_of_mem _ m))
theorem brk_two {ahead len n : Nat} {U : List Str} {t : It} (h : brk ahead len t = some (n, U)) : ∃ (os : List (Option Str)) (m : Option Int), t = .two (some (n : Int)) (some os) m ∧ ahead ≤ n ∧ n ≤ len ∧ os = U.map some ∧ (∀ z ∈ U, signB z = true) := by
  cases t with
  | bad => cases h
  | two x w m =>
    have h : (if (within ahead len x && wordB w) = true then some ((x.getD 0).toNat, (w.getD []).filterMap id) else none) = some (n, U) := h
    by_cases c : (within ahead len x && wordB w) = true
    · rw [if_pos c] at h
      obtain ⟨c1, c2⟩ := Bool.and_eq_true_iff.mp c
      cases x with
      | none => cases c1
      | some x =>
        cases w with
        | none => cases c2
        | some os =>
          have h := Option.some.inj h
          have e1 : x.toNat = n := congrArg Prod.fst h
          have e2 : os.filterMap id = U := congrArg Prod.snd h
          obtain ⟨l1, l2⟩ := Bool.and_eq_true_iff.mp (show (decide ((ahead : Int) ≤ x) && decide (x ≤ (len : Int))) = true from c1)
          have l1 := of_decide_eq_true l1
          have l2 := of_decide_eq_true l2
          have all : ∀ o ∈ os, letB o = true := List.all_eq_true.mp c2
          have e3 : os = (os.filterMap id).map some := all_some all
          have xn : x = (n : Int) := by omega
          subst xn
          refine ⟨os, m, rfl, by omega, by omega, by rw [← e2]; exact e3, fun z hz => ?_⟩
          rw [← e2] at hz
          obtain ⟨o, ho, e4⟩ := List.mem_filterMap.mp hz
          have e4 : o = some z := e4
          subst e4
          exact all _ ho
    · rw [if_neg c] at h
      cases h
theorem tyX_row {K : PySem.W.Frag} {H : Hp} {a : Addr} {xs : List V} (h : SqX K H a xs) : ∃ T b1 b2, TyX K H (.ref a) (.type T) ∧ kitB T "list" = some b1 ∧ kitB T "tuple" = some b2 ∧ (b1 || b2) = true := by
  rcases h with h | h
  · refine ⟨"list", true, false, ?_, by decide +kernel, by decide +kernel, rfl⟩
    rcases h with (h | ⟨o, h⟩) | h
    · exact .base (.lst h)
    · exact .base (.frz h)
    · obtain ⟨o, vs, n, e, c, _⟩ := h
      exact .kList e c
  · exact ⟨"tuple", false, true, tyX_tup h, by decide +kernel, by decide +kernel, rfl⟩
theorem cut_mid {xs : List V} {a b : Nat} (h1 : a ≤ b) (h2 : b ≤ xs.length) : cutV xs (some (a : Int)) (some (b : Int)) = (xs.drop a).take (b - a) := by
  unfold cutV
  rw [HT.sIx_nat, HT.sIx_nat]
  rw [Nat.min_eq_left h2, Nat.min_eq_left (by omega : a ≤ xs.length)]
theorem word_some {o : Option (List (Option Str))} (h : wordB o = true) : ∃ W : List Str, o = some (W.map some) := by
  cases o with
  | none => cases h
  | some os =>
    have all : ∀ o ∈ os, letB o = true := List.all_eq_true.mp h
    clear h
    induction os with
    | nil => exact ⟨[], rfl⟩
    | cons o r ih =>
      obtain ⟨W, e⟩ := ih fun o m => all o (List.mem_cons_of_mem _ m)
      cases o with
      | none => exact absurd (all none List.mem_cons_self) (by decide)
      | some z => exact ⟨z :: W, by rw [List.map_cons, ← Option.some.inj e]⟩
theorem texts_of {ex : List Addr} {K : PySem.W.Frag} {H : Hp} {xs : List V} {W : List Str} (len : xs.length = (W.map some).length) (all : ∀ (i : Nat) (y : V), xs[i]? = some y → ∃ o : Option Str, (W.map some)[i]? = some o ∧ TextX ex K H y o) : xs = W.map V.str := by
  refine List.ext_getElem? fun i => ?_
  rw [List.getElem?_map]
  cases e : xs[i]? with
  | none =>
    rw [List.getElem?_eq_none_iff] at e
    rw [List.length_map] at len
    rw [List.getElem?_eq_none (by omega)]
    rfl
  | some y =>
    obtain ⟨o, ho, tx⟩ := all i y e
    rw [List.getElem?_map] at ho
    obtain ⟨z, hz, rfl⟩ := Option.map_eq_some_iff.mp ho
    rw [hz]
    exact congrArg some tx.1
section
variable {P : Program} {w : World} {K : PySem.W.Frag} {mg : Str → Option Value} {base : Heap}
def sp_putin (K : PySem.W.Frag) (B CB : Addr) : Sp := fun vs H Q E => ∃ x bv ow th, vs = [x, bv] ∧ WordX [] K H x ow ∧ ThX [] K H bv th ∧
  (wordB ow = false → E (.ref B) none H) ∧
  (wordB ow = true → th = none → ∀ d H', Keep [] H H' → H' d = some (.xd [("at", .non)]) → E (.ref CB) (some d) H') ∧
  (∀ W its, ow = some (W.map some) → wordB ow = true → th = some its → W.length ≤ 100 ∧ its.length ≤ 100 ∧ (∀ n U m, It.two n (some U) m ∈ its → U.length ≤ 100) ∧
    (∀ i : Nat, putRun W [] 0 0 its = .error i → ∀ d H', Keep [] H H' → H' d = some (.xd [("at", .int i)]) → E (.ref CB) (some d) H') ∧
    (∀ R, putRun W [] 0 0 its = .ok R → ∀ r H', Keep [] H H' → Lt K H' r R → Q r H'))
theorem ok_putin {B CB : Addr} (D : Def K mg "put_in" s_put_in ["word", "breaks"]) (eB : ErrS P w K mg base "BadBreaks" "at" "at" CB) (zl : mg "len" = none) (ze : mg "enumerate" = none)
    (CK : Callee P w K mg base (L2.CX P w) 4 "check_letters" ["word"] (sp_ckletters K B)) (CI : Callee P w K mg base CX0 1 "is_list" ["thing"] (sp_islist K))
    (CT : Callee P w K mg base CX0 1 "is_tuple_of" ["thing", "many"] (sp_tupN K)) (CN : Callee P w K mg base CX0 2 "is_number_from" ["thing", "low", "high"] (sp_numfrom K))
    (CW : Callee P w K mg base CX0 3 "is_word" ["thing"] (sp_isword K)) :
    Callee P w K mg base (L2.CX P w) 5 "put_in" ["word", "breaks"] (sp_putin K B CB) := by
  refine D.okX sc_put_in (fun vs H Q E h => ?_) (fun f cdv A outer s H vs Q E hr h => ?_)
  · obtain ⟨x, bv, ow, th, rfl, _⟩ := h
    rfl
  · obtain ⟨x, bv, ow, th, rfl, hw, hth, e1, e2, e3⟩ := h
    have nd := sc_put_in.nd
    refine ⟨_, pss_cons (ps_expr (pe_cE CK hr passE (pa_cons (pv 0) pa_nil)))
      (pss_cons (ps_if (pt_not (pt_val (pe_c CI hr (pa_cons (pv 1) pa_nil)))) (pss_one (ps_raise rfl (takes_of rfl rfl rfl rfl) (pmk_s eB (hr.mono (by decide)) (by rfl) (pa_cons pe_non pa_nil) (fun _ _ _ _ h k => h _ _ k)))) pss_nil)
      (pss_cons (ps_set (i := 2) nd rfl (.inl rfl) (pe_tup pa_nil))
      (pss_cons (ps_set (i := 3) nd rfl (.inl rfl) pe_int)
      (pss_cons (ps_for (passes_of rfl) rfl (pi_enumX rfl ze (pa_cons (pv 1) pa_nil)) (pg_tup rfl (pgs_cons (pg_name (i := 4) nd rfl (.inl rfl)) (pgs_cons (pg_name (i := 5) nd rfl (.inl rfl)) pgs_nil)))
        (pss_cons (ps_if (PW.pt (pw_or (pt_not (pt_val (pe_c CT hr (pa_cons (pv 5) (pa_cons pe_int pa_nil)))))
            (pw_or (pt_not (pt_val (pe_c CN hr (pa_cons (pe_ix ix_tup (pv 5) pe_int (fun _ _ => rfl)) (pa_cons (pv 3) (pa_cons (pe_callB call_len_seq (by rfl) zl PySem.boot_len (pa_cons (pv 0) pa_nil)) pa_nil))))))
            (pw_or1 (pt_not (pt_val (pe_c CW hr (pa_cons (pe_ix ix_tup (pv 5) pe_int (fun _ _ => rfl)) pa_nil))))))))
          (pss_one (ps_raise rfl (takes_of rfl rfl rfl rfl) (pmk_s eB (hr.mono (by decide)) (by rfl) (pa_cons (pv 4) pa_nil) (fun _ _ _ _ h k => by obtain ⟨v, ev, k⟩ := k; exact ⟨v, ev, h _ _ k⟩)))) pss_nil)
        (pss_cons (ps_aug (i := 2) nd rfl (.inl rfl) (pe_op op_catA (pe_slice sl_tupA (pv 0) (po_some (pv 3)) (po_some (pe_ix ix_tup (pv 5) pe_int (fun _ _ => rfl)))) (pe_ix ix_tup (pv 5) pe_int (fun _ _ => rfl))) ip_catA (.inr rfl))
        (pss_one (ps_set (i := 3) nd rfl (.inl rfl) (pe_ix ix_tup (pv 5) pe_int (fun _ _ => rfl)))))))
      (pss_one (ps_ret (pe_op op_catA (pv 2) (pe_slice sl_tupA (pv 0) (po_some (pv 3)) po_none)))))))), ?_⟩
    refine ⟨_, rfl, x, ow, rfl, hw, fun yes => ?_, e1⟩
    cases hth with
    | no hT k1 k2 => exact ⟨_, rfl, _, _, false, false, rfl, hT.ty, k1, k2, fun H1 k => ⟨false, rfl, .non, rfl, fun d H' kk hd => e2 yes rfl d H' (k.trans kk) hd⟩⟩
    | @yes a xs its hs _ len all =>
    obtain ⟨T, b1, b2, ty, y1, y2, y3⟩ := tyX_row hs
    refine ⟨_, rfl, _, _, b1, b2, rfl, ty, y1, y2, fun H1 k => ?_⟩
    rw [y3]
    refine ⟨true, rfl, by show 0 ≤ sizeLine; decide, fun t nt => ?_⟩
    have k1 : Keep [] H1 (upd H1 t (.tup [])) := Keep.new nt
    have ht : SqT K (upd H1 t (.tup [])) t [] := .inl (.inl upd_same)
    generalize upd H1 t (.tup []) = H2 at k1 ht ⊢
    have k2 := k.trans k1
    obtain ⟨W, rfl⟩ := word_some yes
    cases hw with
    | @yes wa ws _ hwa wlen wall =>
    have hW : SqT K H wa (W.map V.str) := by
      rw [← texts_of wlen wall]
      exact hwa
    obtain ⟨lenW, lenI, lenU, eE, eQ⟩ := e3 W its rfl yes rfl
    refine for_enumV (i := 1) rfl (hs.keep k2.toKeepW (fun m => nomatch m)) fun J G wk still => for_itW wk (fun i σ H' => ∃ (tt : Addr) (told : List Str) (ahead : Nat) (u4 u5 : Option V), σ = [some (.ref wa), some (.ref a), some (.ref tt), some (.int ((ahead : Nat) : Int)), u4, u5] ∧ Keep [] H2 H' ∧ SqT K H' tt (told.map V.str) ∧ ahead ≤ W.length ∧ told.length ≤ 200 * i ∧ putRun W [] 0 0 its = putRun W told ahead i (its.drop i))
      ⟨t, [], 0, none, none, rfl, Keep.refl, ht, Nat.zero_le _, Nat.zero_le _, rfl⟩ (fun i σ H' _ hh => ?_) (fun i y σ H' H'' lt hh yy => ?_) (fun σ H' hh => ?_)
    · obtain ⟨_, _, _, _, _, rfl, kk, _⟩ := hh
      exact still [] H' kk.toKeepW (fun m => nomatch m)
    · obtain ⟨tt, told, ahead, u4, u5, rfl, kk, htt, al, tl, run⟩ := hh
      obtain ⟨Tp, va, vb, rfl, nT, rfl, ea, eb⟩ := yy
      cases ea
      have eb : xs[i]? = some vb := eb
      obtain ⟨it, hit, ix⟩ := all i vb eb
      refine ⟨Tp, [_, _], rfl, .inl (.inl upd_same), rfl, _, [_], rfl, _, [], rfl, rfl, ?_⟩
      have kT : Keep [] H' (upd H' Tp (.tup [.int (i : Nat), vb])) := Keep.new nT
      generalize upd H' Tp (.tup [.int (i : Nat), vb]) = H3 at kT ⊢
      have k3 := (k2.trans kk).trans kT
      have ix3 := ix.keep k3.toKeepW
      dsimp only [gName]
      have il : i < its.length := (List.getElem?_eq_some_iff.mp hit).1
      have dropI : its.drop i = it :: its.drop (i + 1) := by
        rw [List.drop_eq_getElem_cons il]
        congr 1
        exact (List.getElem?_eq_some_iff.mp hit).2
      rw [dropI] at run
      have bad : brk ahead W.length it = none → ∀ d H'', Keep [] H3 H'' → H'' d = some (.xd [("at", .int i)]) → E (.ref CB) (some d) H'' := fun z d H'' kk2 hd => by
        refine eE i ?_ d H'' (k3.trans kk2) hd
        rw [run]
        show (match brk ahead W.length it with | some (n, U) => _ | none => Except.error i) = _
        rw [z]
      have lw : (W.map V.str).length = W.length := List.length_map ..
      cases ix3 with
      | no hT kT2 => exact ⟨_, rfl, _, _, rfl, .inl ⟨_, hT.ty, kT2, false, rfl, _, rfl, _, rfl, bad rfl⟩⟩
      | @len ax xx hx nx =>
        refine ⟨_, rfl, _, _, rfl, .inr ⟨_, _, rfl, hx, ?_⟩⟩
        rw [decide_eq_false (show ¬ (xx.length : Int) = 2 by omega)]
        exact ⟨false, rfl, _, rfl, _, rfl, bad rfl⟩
      | @two ai x0 y0 n m w hx hn hwd _ =>
        refine ⟨_, rfl, _, _, rfl, .inr ⟨_, _, rfl, hx, true, rfl, ?_⟩⟩
        refine ⟨_, rfl, ai, _, 0, x0, rfl, rfl, hx, rfl, _, rfl, _, rfl, wa, _, rfl, .inr (sqT_keep k3.toKeepW hW), x0, n, _, _, rfl, hn.num, ?_⟩
        rw [lw]
        have brkE : brk ahead W.length (.two n w m) = if (within ahead W.length n && wordB w) = true then some ((n.getD 0).toNat, (w.getD []).filterMap id) else none := rfl
        cases e4 : within (ahead : Int) (W.length : Int) n with
        | false =>
          rw [e4] at brkE
          exact ⟨false, rfl, _, rfl, _, rfl, bad brkE⟩
        | true =>
          refine ⟨true, rfl, _, rfl, ai, _, 1, y0, rfl, rfl, hx, rfl, y0, w, rfl, hwd, ?_⟩
          cases e5 : wordB w with
          | false =>
            rw [e4, e5] at brkE
            exact ⟨false, rfl, _, rfl, _, rfl, bad brkE⟩
          | true =>
            rw [e4, e5] at brkE
            have brkE : brk ahead W.length (.two n w m) = some ((n.getD 0).toNat, (w.getD []).filterMap id) := brkE
            generalize hN : (n.getD 0).toNat = N at brkE
            generalize hU : (w.getD []).filterMap id = U at brkE
            clear hN hU
            obtain ⟨os, m', ei, al2, nl2, eos, _⟩ := brk_two brkE
            cases ei
            subst eos
            have xn : x0 = .int ((N : Nat) : Int) := hn
            subst xn
            cases hwd with
            | @yes ua us _ hu ulen uall =>
            have hUs : SqT K H3 ua (U.map V.str) := by
              rw [← texts_of ulen uall]
              exact hu
            have lenUs := lenU _ _ _ (List.mem_of_getElem? hit)
            refine ⟨true, rfl, .ref tt, rfl, ?_⟩
            refine ⟨_, rfl, _, rfl, _, rfl, _, rfl, ai, _, 0, _, rfl, rfl, hx, rfl, _, rfl, ?_⟩
            have seg : ((W.drop ahead).take (N - ahead)).length ≤ 100 := by
              rw [List.length_take, List.length_drop]
              omega
            have lenU' : U.length ≤ 100 := by
              rw [List.length_map] at lenUs
              exact lenUs
            have i100 : i < 100 := by omega
            have tl2 : told.length ≤ 20000 := by omega
            refine cutA (sqT_keep k3.toKeepW hW) (fun b4 H4 k4 h4 => ?_)
            rw [cut_mid al2 (by rw [lw]; exact nl2), ← List.map_drop, ← List.map_take] at h4
            refine ⟨_, rfl, ai, _, 1, _, rfl, rfl, sqT_keep k4.toKeepW hx, rfl, sumA h4 (sqT_keep k4.toKeepW hUs) ?_ (fun b5 H5 k5 h5 => ?_)⟩
            · rw [List.length_map, List.length_map]
              exact Nat.le_trans (Nat.add_le_add seg lenU') (by decide)
            rw [← List.map_append] at h5
            have k35 := k4.trans k5
            refine sumA (sqT_keep (kT.trans k35).toKeepW htt) h5 ?_ (fun b6 H6 k6 h6 => ?_)
            · rw [List.length_map, List.length_map, List.length_append]
              exact Nat.le_trans (Nat.add_le_add tl2 (Nat.add_le_add seg lenU')) (by decide)
            rw [← List.map_append] at h6
            refine ⟨_, rfl, ai, _, 0, _, rfl, rfl, sqT_keep (k35.trans k6).toKeepW hx, rfl, ?_⟩
            dsimp only [gName]
            refine ⟨b6, told ++ ((W.drop ahead).take (N - ahead) ++ U), N, _, _, rfl, (kk.trans kT).trans (k35.trans k6), h6, nl2, ?_, ?_⟩
            · rw [List.length_append, List.length_append]
              omega
            · rw [run]
              show (match brk ahead W.length _ with | some (n, U) => _ | none => Except.error i) = _
              rw [brkE]
    · obtain ⟨tt, told, ahead, u4, u5, rfl, kk, htt, al, tl, run⟩ := hh
      rw [List.drop_eq_nil_of_le (by omega)] at run
      refine ⟨_, rfl, _, rfl, _, rfl, ?_⟩
      dsimp only [tNoPart]
      have k3 := k2.trans kk
      have lw : (W.map V.str).length = W.length := List.length_map ..
      refine ⟨_, rfl, cutA (sqT_keep k3.toKeepW hW) (fun b4 H4 k4 h4 => ?_)⟩
      rw [cut_from (by rw [lw]; exact al), ← List.map_drop] at h4
      refine sumA (sqT_keep k4.toKeepW htt) h4 ?_ (fun b5 H5 k5 h5 => ?_)
      · rw [List.length_map, List.length_map, List.length_drop]
        refine Nat.le_trans (m := 20100) ?_ (by decide)
        omega
      rw [← List.map_append] at h5
      exact eQ _ run _ _ (k3.trans (k4.trans k5)) ⟨b5, rfl, h5⟩
end
end K56
set_option maxHeartbeats 2000000
namespace K56
open PySem PySem.Spec PyProof.Rows L2 HG HN
def pairB : It → Bool
  | .two n _ m => n.isSome && m.isSome
  | .bad => false
theorem NumX.b {ex : List Addr} {K : PySem.W.Frag} {H : Hp} {v : V} {o : Option Int} (h : NumX ex K H v o) : NumB [] K H v o.isSome := by
  cases o with
  | some i =>
    have h : v = .int i := h
    subst h
    exact .int i
  | none =>
    obtain ⟨T, h, ⟨e1, e2⟩ | ⟨e1, e2⟩⟩ := h
    · exact h.num e1 e2
    · exact h.num e1 e2
def pie (ahead len : Nat) : It → Option (Nat × Nat)
  | .two (some a) _ (some b) => if (ahead : Int) ≤ a ∧ 0 ≤ b ∧ a + b ≤ len then some (a.toNat, b.toNat) else none
  | _ => none
def takeRun (W : List Str) : List Str → List (Nat × List Str) → Nat → Nat → List It → Except Nat (List Str × List (Nat × List Str))
  | rest, brs, ahead, _, [] => .ok (rest ++ W.drop ahead, brs)
  | rest, brs, ahead, i, t :: r => match pie ahead W.length t with
    | some (s, z) => takeRun W (rest ++ (W.drop ahead).take (s - ahead)) (brs ++ [((rest ++ (W.drop ahead).take (s - ahead)).length, (W.drop s).take z)]) (s + z) (i + 1) r
    | none => .error i
structure BrV (K : PySem.W.Frag) (H : Hp) (y : V) (n : Nat) (U : List Str) : Prop where
  ex : ∃ p w, y = .ref p ∧ SqT K H p [.int (n : Nat), .ref w] ∧ SqT K H w (U.map V.str)
structure Brs (K : PySem.W.Frag) (H : Hp) (ys : List V) (brs : List (Nat × List Str)) : Prop where
  len : ys.length = brs.length
  all : ∀ (i : Nat) (y : V), ys[i]? = some y → ∃ b, brs[i]? = some b ∧ BrV K H y b.1 b.2
theorem Brs.keep {K : PySem.W.Frag} {ex : List Addr} {H H' : Hp} {ys : List V} {brs : List (Nat × List Str)} (h : Brs K H ys brs) (k : KeepW ex H H') : Brs K H' ys brs :=
  ⟨h.len, fun i y hy => by
    obtain ⟨b, hb, p, w, e, h1, h2⟩ := h.all i y hy
    exact ⟨b, hb, p, w, e, sqT_keep k h1, sqT_keep k h2⟩⟩
theorem Brs.app {K : PySem.W.Frag} {H : Hp} {ys : List V} {brs : List (Nat × List Str)} {y : V} {n : Nat} {U : List Str} (h : Brs K H ys brs) (b : BrV K H y n U) : Brs K H (ys ++ [y]) (brs ++ [(n, U)]) := by
  refine ⟨by rw [List.length_append, List.length_append, h.len]; rfl, fun i x hx => ?_⟩
  by_cases q : i < ys.length
  · rw [List.getElem?_append_left q] at hx
    obtain ⟨b2, hb, r⟩ := h.all i x hx
    exact ⟨b2, by rw [List.getElem?_append_left (by rw [← h.len]; exact q)]; exact hb, r⟩
  · have e : i = ys.length := by
      have := (List.getElem?_eq_some_iff.mp hx).1
      rw [List.length_append] at this
      simp only [List.length_singleton] at this
      omega
    subst e
    rw [List.getElem?_append_right (Nat.le_refl _), Nat.sub_self] at hx
    cases hx
    exact ⟨(n, U), by rw [h.len, List.getElem?_append_right (Nat.le_refl _), Nat.sub_self]; rfl, b⟩
/-- the pair that is told: what is left, and the breaks -/
structure Res (K : PySem.W.Frag) (H H' : Hp) (r : V) (R : List Str) (brs : List (Nat × List Str)) : Prop where
  ex : ∃ p a bl ys, r = .ref p ∧ SqT K H' p [.ref a, .ref bl] ∧ SqT K H' a (R.map V.str) ∧ H' bl = some (.lst ys) ∧ H bl = none ∧ Brs K H' ys brs
section
variable {P : Program} {w : World} {K : PySem.W.Frag} {mg : Str → Option Value} {base : Heap}
def sp_ispair (K : PySem.W.Frag) : Sp := fun vs H Q _ => ∃ v t, vs = [v] ∧ ItX [] K H v t ∧ Q (.bl (pairB t)) H
theorem ok_ispair (D : Def K mg "is_pair" s_is_pair ["thing"]) (CT : Callee P w K mg base CX0 1 "is_tuple_of" ["thing", "many"] (sp_tupN K)) (CN : Callee P w K mg base CX0 1 "is_number" ["thing"] (sp_isnum K)) :
    Callee P w K mg base CX0 2 "is_pair" ["thing"] (sp_ispair K) := by
  refine D.ok sc_is_pair (fun vs H Q E h => ?_) (fun f cdv A outer s H vs Q E hr h => ?_)
  · obtain ⟨v, t, rfl, _⟩ := h
    rfl
  · obtain ⟨v, t, rfl, ix, q⟩ := h
    refine ⟨_, pss_one (ps_ret (pe_and (pe_c CT hr (pa_cons (pv 0) (pa_cons pe_int pa_nil))) (pe_and (pe_c CN hr (pa_cons (pe_ix ix_tup (pv 0) pe_int (fun _ _ => rfl)) pa_nil)) (pe_one (pe_c CN hr (pa_cons (pe_ix ix_tup (pv 0) pe_int (fun _ _ => rfl)) pa_nil)))))), ?_⟩
    cases ix with
    | no hT k => exact ⟨_, rfl, _, _, rfl, .inl ⟨_, hT.ty, k, false, rfl, q⟩⟩
    | @len a xs hx nx =>
      refine ⟨_, rfl, _, _, rfl, .inr ⟨_, _, rfl, hx, ?_⟩⟩
      rw [decide_eq_false (show ¬ (xs.length : Int) = 2 by omega)]
      exact ⟨false, rfl, q⟩
    | @two a x y n m wd hx hn _ hm =>
      refine ⟨_, rfl, _, _, rfl, .inr ⟨_, _, rfl, hx, true, rfl, ?_⟩⟩
      refine ⟨_, rfl, a, _, 0, x, rfl, rfl, hx, rfl, x, _, rfl, NumX.b hn, ?_⟩
      cases n with
      | none => exact ⟨false, rfl, q⟩
      | some n => exact ⟨true, rfl, _, rfl, a, _, 1, y, rfl, rfl, hx, rfl, y, _, rfl, NumX.b hm, q⟩
def sp_takenout (K : PySem.W.Frag) (B CP : Addr) : Sp := fun vs H Q E => ∃ x bv ow th, vs = [x, bv] ∧ WordX [] K H x ow ∧ ThX [] K H bv th ∧
  (wordB ow = false → E (.ref B) none H) ∧
  (wordB ow = true → th = none → ∀ d H', Keep [] H H' → H' d = some (.xd [("at", .non)]) → E (.ref CP) (some d) H') ∧
  (∀ W its, ow = some (W.map some) → wordB ow = true → th = some its → W.length ≤ 100 ∧ its.length ≤ 100 ∧
    (∀ i : Nat, takeRun W [] [] 0 0 its = .error i → ∀ d H', Keep [] H H' → H' d = some (.xd [("at", .int i)]) → E (.ref CP) (some d) H') ∧
    (∀ R brs, takeRun W [] [] 0 0 its = .ok (R, brs) → ∀ r H', Keep [] H H' → Res K H H' r R brs → Q r H'))
theorem ok_takenout {B CP : Addr} (D : Def K mg "taken_out" s_taken_out ["word", "pieces"]) (eP : ErrS P w K mg base "BadPieces" "at" "at" CP) (zl : mg "len" = none) (ze : mg "enumerate" = none)
    (CK : Callee P w K mg base (L2.CX P w) 4 "check_letters" ["word"] (sp_ckletters K B)) (CI : Callee P w K mg base CX0 1 "is_list" ["thing"] (sp_islist K))
    (CIP : Callee P w K mg base CX0 2 "is_pair" ["thing"] (sp_ispair K)) :
    Callee P w K mg base (L2.CX P w) 5 "taken_out" ["word", "pieces"] (sp_takenout K B CP) := by
  refine D.okX sc_taken_out (fun vs H Q E h => ?_) (fun f cdv A outer s H vs Q E hr h => ?_)
  · obtain ⟨x, bv, ow, th, rfl, _⟩ := h
    rfl
  · obtain ⟨x, bv, ow, th, rfl, hw, hth, e1, e2, e3⟩ := h
    have nd := sc_taken_out.nd
    refine ⟨_, pss_cons (ps_expr (pe_cE CK hr passE (pa_cons (pv 0) pa_nil)))
      (pss_cons (ps_if (pt_not (pt_val (pe_c CI hr (pa_cons (pv 1) pa_nil)))) (pss_one (ps_raise rfl (takes_of rfl rfl rfl rfl) (pmk_s eP (hr.mono (by decide)) (by rfl) (pa_cons pe_non pa_nil) (fun _ _ _ _ h k => h _ _ k)))) pss_nil)
      (pss_cons (ps_set (i := 2) nd rfl (.inl rfl) (pe_tup pa_nil))
      (pss_cons (ps_set (i := 3) nd rfl (.inl rfl) (pe_lst pa_nil))
      (pss_cons (ps_set (i := 4) nd rfl (.inl rfl) pe_int)
      (pss_cons (ps_for (passes_of rfl) rfl (pi_enumX rfl ze (pa_cons (pv 1) pa_nil)) (pg_tup rfl (pgs_cons (pg_name (i := 5) nd rfl (.inl rfl)) (pgs_cons (pg_name (i := 6) nd rfl (.inl rfl)) pgs_nil))) (pss_cons (ps_if (PW.pt (pw_or (pt_not (pt_val (pe_c CIP hr (pa_cons (pv 6) pa_nil)))) (pw_or (pt_cmpR op_lt (pe_ix ix_tup (pv 6) pe_int (fun _ _ => rfl)) (pv 4) (nomark _)) (pw_or (pt_cmpR op_lt (pe_ix ix_tup (pv 6) pe_int (fun _ _ => rfl)) pe_int (nomark _)) (pw_or1 (pt_cmpR op_gt (pe_op op_add (pe_ix ix_tup (pv 6) pe_int (fun _ _ => rfl)) (pe_ix ix_tup (pv 6) pe_int (fun _ _ => rfl))) (pe_callB call_len_seq (by rfl) zl PySem.boot_len (pa_cons (pv 0) pa_nil)) (nomark _))))))) (pss_one (ps_raise rfl (takes_of rfl rfl rfl rfl) (pmk_s eP (hr.mono (by decide)) (by rfl) (pa_cons (pv 5) pa_nil) (fun _ _ _ _ h k => by obtain ⟨v, ev, k⟩ := k; exact ⟨v, ev, h _ _ k⟩)))) pss_nil)
      (pss_cons (ps_aug (i := 2) nd rfl (.inl rfl) (pe_slice sl_tupA (pv 0) (po_some (pv 4)) (po_some (pe_ix ix_tup (pv 6) pe_int (fun _ _ => rfl)))) ip_catA (.inr rfl))
      (pss_cons (ps_set (i := 4) nd rfl (.inl rfl) (pe_op op_add (pe_ix ix_tup (pv 6) pe_int (fun _ _ => rfl)) (pe_ix ix_tup (pv 6) pe_int (fun _ _ => rfl))))
      (pss_one (ps_expr (pe_bm PySem.F.plainAttrs_list PySem.F.slot_list_append PySem.F.type_list_append mt_append (pv 3) (pa_cons (pe_tup (pa_cons (pe_callB call_len_seq (by rfl) zl PySem.boot_len (pa_cons (pv 2) pa_nil)) (pa_cons (pe_slice sl_tupA (pv 0) (po_some (pe_ix ix_tup (pv 6) pe_int (fun _ _ => rfl))) (po_some (pv 4))) pa_nil))) pa_nil))))))))
      (pss_one (ps_ret (pe_tup (pa_cons (pe_op op_catA (pv 2) (pe_slice sl_tupA (pv 0) (po_some (pv 4)) po_none)) (pa_cons (pv 3) pa_nil)))))))))), ?_⟩
    refine ⟨_, rfl, x, ow, rfl, hw, fun yes => ?_, e1⟩
    cases hth with
    | no hT k1 k2 => exact ⟨_, rfl, _, _, false, false, rfl, hT.ty, k1, k2, fun H1 k => ⟨false, rfl, .non, rfl, fun d H' kk hd => e2 yes rfl d H' (k.trans kk) hd⟩⟩
    | @yes a xs its hs _ len all =>
    obtain ⟨T, b1, b2, ty, y1, y2, y3⟩ := tyX_row hs
    refine ⟨_, rfl, _, _, b1, b2, rfl, ty, y1, y2, fun H1 k => ?_⟩
    rw [y3]
    refine ⟨true, rfl, by show 0 ≤ sizeLine; decide, fun t nt => ⟨by show 0 ≤ sizeLine; decide, fun bl nbl => ?_⟩⟩
    have k1 : Keep [] H1 (upd (upd H1 t (.tup [])) bl (.lst [])) := (Keep.new nt).trans (Keep.new nbl)
    have ht : SqT K (upd (upd H1 t (.tup [])) bl (.lst [])) t [] := .inl (.inl (by rw [upd_ne (ne_of_none upd_same nbl)]; exact upd_same))
    have hbl : (upd (upd H1 t (.tup [])) bl (.lst [])) bl = some (.lst []) := upd_same
    have nbl0 : H bl = none := (k.trans (Keep.new nt)).none nbl
    generalize upd (upd H1 t (.tup [])) bl (.lst []) = H2 at k1 ht hbl ⊢
    have k2 := k.trans k1
    obtain ⟨W, rfl⟩ := word_some yes
    cases hw with
    | @yes wa ws _ hwa wlen wall =>
    have hW : SqT K H wa (W.map V.str) := by
      rw [← texts_of wlen wall]
      exact hwa
    obtain ⟨lenW, lenI, eE, eQ⟩ := e3 W its rfl yes rfl
    have lw : (W.map V.str).length = W.length := List.length_map ..
    refine for_enumV2 (i := 1) rfl hs k2.toKeepW fun J G wk still => for_itW wk (fun i σ H' => ∃ (tt : Addr) (rest : List Str) (brs : List (Nat × List Str)) (ys : List V) (ahead : Nat) (u5 u6 : Option V),
        σ = [some (.ref wa), some (.ref a), some (.ref tt), some (.ref bl), some (.int ((ahead : Nat) : Int)), u5, u6] ∧ Keep [] H H' ∧ SqT K H' tt (rest.map V.str) ∧ H' bl = some (.lst ys) ∧ Brs K H' ys brs ∧ ys.length ≤ i ∧ ahead ≤ W.length ∧ rest.length ≤ ahead ∧
        takeRun W [] [] 0 0 its = takeRun W rest brs ahead i (its.drop i))
      ⟨t, [], [], [], 0, none, none, rfl, k2, ht, hbl, ⟨rfl, fun i y h => by simp at h⟩, Nat.zero_le _, Nat.zero_le _, Nat.zero_le _, rfl⟩ (fun i σ H' _ hh => ?_) (fun i y σ H' H'' lt hh yy => ?_) (fun σ H' hh => ?_)
    · obtain ⟨_, _, _, _, _, _, _, rfl, kk, _⟩ := hh
      exact still H' kk.toKeepW
    · obtain ⟨tt, rest, brs, ys, ahead, u5, u6, rfl, kk, htt, hb, hB, yl, al, rl, run⟩ := hh
      obtain ⟨Tp, va, vb, rfl, nT, rfl, ea, eb⟩ := yy
      cases ea
      have eb : xs[i]? = some vb := eb
      obtain ⟨it, hit, ix⟩ := all i vb eb
      refine ⟨Tp, [_, _], rfl, .inl (.inl upd_same), rfl, _, [_], rfl, _, [], rfl, rfl, ?_⟩
      have kT : Keep [] H' (upd H' Tp (.tup [.int (i : Nat), vb])) := Keep.new nT
      generalize upd H' Tp (.tup [.int (i : Nat), vb]) = H3 at kT ⊢
      have k3 := kk.trans kT
      have ix3 := ix.keep k3.toKeepW
      dsimp only [gName]
      have il : i < its.length := (List.getElem?_eq_some_iff.mp hit).1
      have dropI : its.drop i = it :: its.drop (i + 1) := by
        rw [List.drop_eq_getElem_cons il]
        congr 1
        exact (List.getElem?_eq_some_iff.mp hit).2
      rw [dropI] at run
      have bad : pie ahead W.length it = none → ∀ d H'', Keep [] H3 H'' → H'' d = some (.xd [("at", .int i)]) → E (.ref CP) (some d) H'' := fun z d H'' kk2 hd => by
        refine eE i ?_ d H'' (k3.trans kk2) hd
        rw [run]
        show (match pie ahead W.length it with | some (s, z) => _ | none => Except.error i) = _
        rw [z]
      refine ⟨_, rfl, vb, it, rfl, ix3, ?_⟩
      cases e4 : pairB it with
      | false =>
        refine ⟨false, rfl, _, rfl, _, rfl, bad ?_⟩
        cases it with
        | bad => rfl
        | two n w m =>
          cases n with
          | none => rfl
          | some n =>
            cases m with
            | none => rfl
            | some m => cases e4
      | true =>
        cases ix3 with
        | no _ _ => cases e4
        | len _ _ => cases e4
        | @two ai x0 y0 n m w hx hn _ hm =>
          cases n with
          | none => cases e4
          | some n =>
          cases m with
          | none => cases e4
          | some m =>
          have hn : x0 = .int n := hn
          have hm : y0 = .int m := hm
          subst hn hm
          have pieE : pie ahead W.length (.two (some n) w (some m)) = if (ahead : Int) ≤ n ∧ 0 ≤ m ∧ n + m ≤ W.length then some (n.toNat, m.toNat) else none := rfl
          refine ⟨true, rfl, _, rfl, ai, _, 0, _, rfl, rfl, hx, rfl, _, rfl, _, _, rfl, rfl, _, rfl, ?_⟩
          by_cases c1 : n < (ahead : Int)
          · rw [decide_eq_true c1]
            exact ⟨_, rfl, _, rfl, bad (by rw [pieE, if_neg (fun z => by omega)])⟩
          rw [decide_eq_false c1]
          refine ⟨_, rfl, ai, _, 1, _, rfl, rfl, hx, rfl, _, _, rfl, rfl, _, rfl, ?_⟩
          by_cases c2 : m < 0
          · rw [decide_eq_true c2]
            exact ⟨_, rfl, _, rfl, bad (by rw [pieE, if_neg (fun z => by omega)])⟩
          rw [decide_eq_false c2]
          refine ⟨_, rfl, ai, _, 0, _, rfl, rfl, hx, rfl, _, rfl, ai, _, 1, _, rfl, rfl, hx, rfl, _, _, rfl, rfl, _, rfl, wa, _, rfl, .inr (sqT_keep k3.toKeepW hW), ?_⟩
          refine ⟨_, _, rfl, rfl, _, rfl, ?_⟩
          rw [lw]
          by_cases c3 : n + m > (W.length : Int)
          · rw [decide_eq_true c3]
            exact ⟨_, rfl, _, rfl, bad (by rw [pieE, if_neg (fun z => by omega)])⟩
          rw [decide_eq_false c3]
          rw [if_pos ⟨by omega, by omega, by omega⟩] at pieE
          obtain ⟨N, rfl⟩ : ∃ N : Nat, n = (N : Int) := ⟨n.toNat, by omega⟩
          obtain ⟨M, rfl⟩ : ∃ M : Nat, m = (M : Int) := ⟨m.toNat, by omega⟩
          have pieE : pie ahead W.length (.two (some (N : Int)) w (some (M : Int))) = some (N, M) := by
            rw [pieE]
            rfl
          refine ⟨.ref tt, rfl, _, rfl, _, rfl, _, rfl, _, rfl, ai, _, 0, _, rfl, rfl, hx, rfl, _, rfl, ?_⟩
          refine cutA (sqT_keep k3.toKeepW hW) (fun b4 H4 k4 h4 => ?_)
          rw [cut_mid (by omega) (by rw [lw]; omega), ← List.map_drop, ← List.map_take] at h4
          refine sumA (sqT_keep (kT.trans k4).toKeepW htt) h4 ?_ (fun b5 H5 k5 h5 => ?_)
          · rw [List.length_map, List.length_map, List.length_take, List.length_drop]
            refine Nat.le_trans (m := 300) ?_ (by decide)
            omega
          rw [← List.map_append] at h5
          have k35 := k4.trans k5
          have hx5 := sqT_keep k35.toKeepW hx
          refine ⟨_, rfl, ai, _, 0, _, rfl, rfl, hx5, rfl, _, rfl, ai, _, 1, _, rfl, rfl, hx5, rfl, _, _, rfl, rfl, ?_⟩
          dsimp only [gName]
          have hb5 := (kT.trans k35).toKeepW.get hb (fun m => nomatch m)
          refine ⟨_, rfl, .inl ⟨rfl, _, SqL.of hb5⟩, ?_⟩
          refine ⟨_, rfl, b5, _, rfl, .inr h5, ?_⟩
          refine ⟨_, rfl, _, rfl, ai, _, 0, _, rfl, rfl, hx5, rfl, _, rfl, _, rfl, _, rfl, ?_⟩
          refine cutA (sqT_keep (k3.trans k35).toKeepW hW) (fun b6 H6 k6 h6 => ⟨by show 2 ≤ sizeLine; decide, fun tq ntq => ?_⟩)
          rw [show ((N : Int) + (M : Int)) = ((N + M : Nat) : Int) by omega, cut_mid (by omega) (by rw [lw]; omega), ← List.map_drop, ← List.map_take, show N + M - N = M by omega] at h6
          have kq : Keep [] H6 (upd H6 tq (.tup [.int (((rest ++ (W.drop ahead).take (N - ahead)).map V.str).length : Nat), .ref b6])) := Keep.new ntq
          have hq : SqT K (upd H6 tq (.tup [.int (((rest ++ (W.drop ahead).take (N - ahead)).map V.str).length : Nat), .ref b6])) tq [.int (((rest ++ (W.drop ahead).take (N - ahead)).map V.str).length : Nat), .ref b6] := .inl (.inl upd_same)
          generalize upd H6 tq (.tup [.int (((rest ++ (W.drop ahead).take (N - ahead)).map V.str).length : Nat), .ref b6]) = H7 at kq hq ⊢
          rw [List.length_map] at hq
          have k57 := k6.trans kq
          have hb7 := k57.toKeepW.get hb5 (fun m => nomatch m)
          refine ⟨bl, ys, _, rfl, rfl, hb7, small1000 (by omega), ?_⟩
          have kl : Keep [bl] H7 (upd H7 bl (.lst (ys ++ [.ref tq]))) := Keep.chg hb7 List.mem_cons_self (fun _ z => nomatch z) (fun _ _ z => nomatch z)
          have kAll : Keep [] H H7 := (k3.trans k35).trans k57
          have kUp : Keep [] H (upd H7 bl (.lst (ys ++ [.ref tq]))) := kAll.mut nbl0
          have hB7 : Brs K H7 ys brs := hB.keep ((kT.trans k35).trans k57).toKeepW
          have newB : BrV K H7 (.ref tq) ((rest ++ (W.drop ahead).take (N - ahead)).length) ((W.drop N).take M) := ⟨tq, b6, rfl, hq, sqT_keep kq.toKeepW h6⟩
          refine ⟨b5, rest ++ (W.drop ahead).take (N - ahead), brs ++ [((rest ++ (W.drop ahead).take (N - ahead)).length, (W.drop N).take M)], ys ++ [.ref tq], N + M, _, _, rfl, kUp, sqT_keep (k57.toKeepW.nil.trans kl.toKeepW) h5, upd_same, (hB7.app newB).keep kl.toKeepW, ?_, by omega, ?_, ?_⟩
          · rw [List.length_append]
            simp only [List.length_singleton]
            omega
          · rw [List.length_append, List.length_take, List.length_drop]
            omega
          · rw [run]
            show (match pie ahead W.length _ with | some (s, z) => _ | none => Except.error i) = _
            rw [pieE]
    · obtain ⟨tt, rest, brs, ys, ahead, u5, u6, rfl, kk, htt, hb, hB, yl, al, rl, run⟩ := hh
      rw [List.drop_eq_nil_of_le (by omega)] at run
      refine ⟨_, rfl, _, rfl, _, rfl, ?_⟩
      dsimp only [tNoPart]
      refine ⟨_, rfl, cutA (sqT_keep kk.toKeepW hW) (fun b4 H4 k4 h4 => ?_)⟩
      rw [cut_from (by rw [lw]; exact al), ← List.map_drop] at h4
      refine sumA (sqT_keep k4.toKeepW htt) h4 ?_ (fun b5 H5 k5 h5 => ?_)
      · rw [List.length_map, List.length_map, List.length_drop]
        refine Nat.le_trans (m := 200) ?_ (by decide)
        omega
      rw [← List.map_append] at h5
      refine ⟨_, rfl, by show 2 ≤ sizeLine; decide, fun tp ntp => ?_⟩
      have k6 : Keep [] H5 (upd H5 tp (.tup [.ref b5, .ref bl])) := Keep.new ntp
      have k46 := (k4.trans k5).trans k6
      refine eQ _ _ run _ _ (kk.trans k46) ⟨tp, b5, bl, ys, rfl, .inl (.inl upd_same), sqT_keep k6.toKeepW h5, k46.toKeepW.get hb (fun m => nomatch m), nbl0, hB.keep k46.toKeepW⟩
end
end K56
set_option maxHeartbeats 2000000
namespace L56
open PySem PySem.Spec PyProof.Rows L2 HG PU LamX
def gB (b : Nat × List Str) : Br := (b.1, b.2.map .str)
def pIt (p : Pi2) : K56.It := .two (some ((p.1 : Nat) : Int)) none (some ((p.2 : Nat) : Int))
theorem run_pure {W : List Str} : ∀ {ps : List Pi2} {rest : List Str} {brs : List (Nat × List Str)} {ahead i : Nat}, Up2 W.length ahead ps →
    ∃ R B, K56.takeRun W rest brs ahead i (ps.map pIt) = .ok (R, B) ∧ (R.map D.str, B.map gB) = takePure (W.map .str) (rest.map .str) (brs.map gB) ahead ps
  | [], rest, brs, ahead, i, _ => ⟨_, _, rfl, by
      show _ = (rest.map D.str ++ (W.map D.str).drop ahead, brs.map gB)
      rw [List.map_append, List.map_drop]⟩
  | (s, z) :: r, rest, brs, ahead, i, h => by
    obtain ⟨h1, h2, h3⟩ := h
    obtain ⟨R, B, e1, e2⟩ := run_pure (rest := rest ++ (W.drop ahead).take (s - ahead)) (brs := brs ++ [((rest ++ (W.drop ahead).take (s - ahead)).length, (W.drop s).take z)]) (ahead := s + z) (i := i + 1) h3
    refine ⟨R, B, ?_, ?_⟩
    · show K56.takeRun W rest brs ahead i (pIt (s, z) :: r.map pIt) = _
      unfold K56.takeRun
      have e : K56.pie ahead W.length (pIt (s, z)) = some (s, z) := by
        show (if (ahead : Int) ≤ (s : Int) ∧ 0 ≤ (z : Int) ∧ (s : Int) + (z : Int) ≤ W.length then some ((s : Int).toNat, (z : Int).toNat) else none) = _
        rw [if_pos ⟨by omega, by omega, by omega⟩]
        rfl
      rw [e]
      exact e1
    · rw [e2]
      show _ = takePure (W.map .str) (rest.map .str ++ ((W.map D.str).drop ahead).take (s - ahead)) (brs.map gB ++ [((rest.map D.str ++ ((W.map D.str).drop ahead).take (s - ahead)).length, ((W.map D.str).drop s).take z)]) (s + z) r
      rw [List.map_append, List.map_append, List.map_take, List.map_drop]
      congr 2
      simp [gB, List.map_take, List.map_drop]
theorem dda_strs' {K : PySem.W.Frag} {F : Hp} : ∀ {W : List Str} {xs : List V}, DdA K F xs (W.map .str) → xs = W.map V.str
  | [], _, h => by cases h; rfl
  | z :: r, _, h => by
    cases h with
    | cons a b =>
      cases a
      rw [dda_strs' b]
      rfl
theorem word_x {K : PySem.W.Frag} {F H : Hp} {v : V} {W : List Str} (l : Le F H) (h : Dd K F v (.tup (W.map .str))) (g : ∀ z ∈ W, letS z = true) : HG.WordX [] K H v (some (W.map some)) ∧ K56.wordB (some (W.map some)) = true := by
  cases h with
  | tup hq hA =>
    have e := dda_strs' hA
    subst e
    refine ⟨.yes (SqT.le l hq) (by simp) fun i y hy => ?_, ?_⟩
    · obtain ⟨z, hz, rfl⟩ := map_get hy
      have := (letS_to (g z (List.mem_of_getElem? hz))).2.1
      exact ⟨some z, by rw [List.getElem?_map, hz]; rfl, rfl, by omega⟩
    · show (W.map some).all K56.letB = true
      rw [List.all_map, List.all_eq_true]
      exact fun z m => g z m
theorem dda_get {K : PySem.W.Frag} {F : Hp} : ∀ {vs : List V} {ds : List D} {i : Nat} {v : V}, DdA K F vs ds → vs[i]? = some v → ∃ d, ds[i]? = some d ∧ Dd K F v d
  | _, _, _, _, .nil, h => by simp at h
  | _, _, 0, _, .cons a b, h => by cases h; exact ⟨_, rfl, a⟩
  | _, _, i + 1, _, .cons a b, h => dda_get (i := i) b h
theorem row_x {K : PySem.W.Frag} {F H : Hp} {v : V} {ps : List Pi2} (l : Le F H) (h : Dd K F v (.lst (ps.map piD))) : K56.ThX [] K H v (some (ps.map pIt)) := by
  cases h with
  | lst hq hA =>
    refine .yes (.inl (SqL.le l hq)) (fun m => nomatch m) (by rw [hA.length]; simp) fun i y hy => ?_
    obtain ⟨d, hd, dd⟩ := dda_get hA hy
    obtain ⟨p, hp, rfl⟩ := map_get hd
    refine ⟨pIt p, by rw [List.getElem?_map, hp]; rfl, ?_⟩
    unfold piD at dd
    cases dd with
    | tup tq tA =>
      obtain ⟨x, y', rfl, c1, c2⟩ := dda2 tA
      obtain rfl : x = V.int (p.1 : Nat) := by cases c1; rfl
      obtain rfl : y' = V.int (p.2 : Nat) := by cases c2; rfl
      exact .two (SqT.le l tq) rfl (.no (T := "int") (.of (fun _ _ m => nomatch m) (.base (by constructor))) rfl) rfl
def tTx (K : PySem.W.Frag) (G : Gh) (u : TDb) : TT := fun σ H Q => ∃ F0 H0, (cnOf G F0 H0).Ok ∧ tT K (cnOf G F0 H0) u σ H Q
theorem pt_x {X : Cx} {G : Gh} {e : Expr} {u : TDb} (h : ∀ F0 H0, (cnOf G F0 H0).Ok → UT X (cnOf G F0 H0) e u) : PT X e (tTx X.K G u) := ⟨fun pins s σ H Q I ⟨F0, H0, ok, q⟩ => (h F0 H0 ok).run.run pins s σ H Q I q⟩
def uThaw (iw ip it ib : Nat) (u : TDb) (w : TDs) : TDs := fun E ρ n => ∃ (W : List Str) (ps : List Pi2), gt ρ iw = .d (.tup (W.map .str)) ∧ gt ρ ip = .d (.lst (ps.map piD)) ∧ W.length ≤ 100 ∧ (∀ z ∈ W, letS z = true) ∧ ps.length ≤ 100 ∧ Up2 W.length 0 ps ∧ it < ρ.length ∧ ib < ρ.length ∧
  u (st (fro ρ) it (.d (.tup [.tup (leftW (W.map .str) ps), .lst ((leftBrs (W.map .str) ps).map itD)]))) n (fun b m => b = false ∧ w E (st (st ρ it .u) ib .u) m)
theorem brs_dd {K : PySem.W.Frag} {H F : Hp} (up : ∀ p xs, SqT K H p xs → SqT K F p xs) : ∀ {ys : List V} {B : List (Nat × List Str)}, K56.Brs K H ys B → DdA K F ys ((B.map gB).map itD)
  | [], B, h => by
    have := h.len
    match B, this with
    | [], _ => exact .nil
  | y :: r, B, h => by
    have l := h.len
    match B, l with
    | b :: B', l =>
      obtain ⟨b', hb, p, w, e, h1, h2⟩ := h.all 0 y rfl
      cases hb
      subst e
      refine .cons (.tup (up _ _ h1) (.cons (.int _) (.cons (.tup (up _ _ h2) ?_) .nil))) (brs_dd up (B := B') ⟨by simpa using l, fun i z hz => h.all (i + 1) z hz⟩)
      show DdA K F (b.2.map V.str) (b.2.map .str)
      generalize b.2 = L
      induction L with
      | nil => exact .nil
      | cons x r ih => exact .cons (.str _) ih
theorem strs_dd {K : PySem.W.Frag} {F : Hp} (L : List Str) : DdA K F (L.map V.str) (L.map .str) := by
  induction L with
  | nil => exact .nil
  | cons x r ih => exact .cons (.str _) ih
theorem uss_thaw {X : Cx} {T : List (Addr × Str)} {i : Addr × Addr × Addr} {F0 H0 : Hp} {s1 s3 s4 : Stmt} {te : Expr} {ty : List Stmt} {tp : Pos} {rest : List Stmt} {B CP : Addr} {iw ip it ib : Nat} {u : TDb} {w : TDs} {yes : TS} (ok : (cnOf (gLaw T i) F0 H0).Ok)
    (d1 : iw ≠ it) (d2 : iw ≠ ib) (d3 : it ≠ ib)
    (h1 : PS X s1 (tAsg (tCl (K56.sp_takenout X.K B CP) E0 (tCons (tVar iw) (tCons (tVar ip) tNil))) (gName it)))
    (h2 : ∀ F0 H0, (cnOf (gLaw T i) F0 H0).Ok → UT X (cnOf (gLaw T i) F0 H0) te u) (hy : PSs X ty yes)
    (h3 : PS X s3 (tAsg (tOp (rIxT X.K) (tVar it) (tC (.int 1))) (gName ib)))
    (h4 : PS X s4 (tDrop (tBM X.K "list" rAppend (tVar ib) (tCons (tTup (tCons (tC (.int 0)) (tCons (tVar iw) tNil))) tNil))))
    (hr : USs X (cnOf (gLaw T i) F0 H0) rest w) : USs X (cnOf (gLaw T i) F0 H0) (s1 :: .If te ty [] tp :: s3 :: s4 :: rest) (uThaw iw ip it ib u w) := by
  have mu : Mo u := (h2 F0 H0 ok).mo
  refine ⟨PSsw (pss_cons h1 (pss_cons (ps_if (pt_x h2) hy pss_nil) (pss_cons h3 (pss_cons h4 hr.run)))) fun D σ H ⟨F, ρ, n, E, rel, ok', q⟩ => ?_⟩
  obtain ⟨W, ps, ew, ep, lW, gW, lP, up, lit, lib, q⟩ := q
  have sw := rel.sl iw
  rw [ew] at sw
  obtain ⟨vw, e1, dw⟩ := sw
  have sp := rel.sl ip
  rw [ep] at sp
  obtain ⟨vp, e2, dp⟩ := sp
  obtain ⟨wx, wb⟩ := word_x rel.le dw gW
  have th := row_x rel.le dp
  have sz : sizeLine = 16777216 := sizeLine_eq
  have fx : ∀ b ∈ [i.1, i.2.1], Fr0 F b := fun b m => ok.fr rel.x b m
  refine ⟨vw, getD_some e1, vp, getD_some e2, vw, vp, _, _, rfl, wx, th, fun z => absurd (wb.symm.trans z) (by decide), (fun _ z => nomatch z), fun W' its' eW _ eI => ?_⟩
  have eW' : W' = W := by
    have := Option.some.inj eW
    exact (List.map_inj_right (fun _ _ h => Option.some.inj h)).mp this.symm
  subst eW'
  cases eI
  obtain ⟨R0, B0, r1, r2⟩ := run_pure (W := W') (ps := ps) (rest := []) (brs := []) (ahead := 0) (i := 0) up
  refine ⟨lW, by rw [List.length_map]; exact lP, fun i' e => ?_, fun R Bs e r H1 k1 res => ?_⟩
  · rw [r1] at e
    cases e
  rw [r1] at e
  cases e
  have r3 := r2.trans (take_law (W := W'.map .str) (ps := ps) (by rw [List.length_map]; exact up))
  have rR : R0.map PU.D.str = leftW (W'.map .str) ps := congrArg Prod.fst r3
  have rB : B0.map gB = leftBrs (W'.map .str) ps := congrArg Prod.snd r3
  obtain ⟨t, a, bl, ys, rfl, ht, ha, hbl, nbl, hB⟩ := res.ex
  have dom : ∀ b ∈ [i.1, i.2.1], ∃ o, H b = some o ∧ NTb o := fun b m => (gLaw T i).dm n H rel.m b (ok.sub b m)
  have nex : bl ∉ [i.1, i.2.1] := fun m => by
    obtain ⟨o, e, _⟩ := dom bl m
    rw [nbl] at e
    cases e
  let F1 : Hp := fun x => if x ∈ [i.1, i.2.1] then none else H1 x
  have at1 : ∀ x, x ∉ [i.1, i.2.1] → F1 x = H1 x := fun x m => if_neg m
  have l1 : Le F1 H1 := fun x o e _ => by
    by_cases m : x ∈ [i.1, i.2.1]
    · rw [show F1 x = none from if_pos m] at e
      cases e
    · rw [at1 x m] at e
      exact e
  have keepAll : ∀ x o, H x = some o → H1 x = some o := fun x o e => by
    by_cases tb : ∃ ps, o = .tbl ps
    · obtain ⟨ps, rfl⟩ := tb
      exact k1.tbl x ps e
    · exact k1.toKeepW.all x o e (fun z => nomatch z) fun ps z => tb ⟨ps, z⟩
  have lF : Le F F1 := fun x o e nt => by
    have m : x ∉ [i.1, i.2.1] := fun m => by
      obtain ⟨ps, z⟩ := fx x m o e
      exact nt ps z
    rw [at1 x m]
    exact keepAll x o (rel.le x o e nt)
  have m1 : (gLaw T i).M n H1 := (gLaw T i).kp n H H1 (fun x o e _ => keepAll x o e) rel.m
  have okC : (cnOf (gLaw T i) F1 H1).Ok := ⟨ok.sub, fun b m o e => (by have e : F1 b = some o := e; rw [show F1 b = none from if_pos m] at e; cases e), fun b m => (gLaw T i).dm n H1 m1 b (ok.sub b m)⟩
  have r0 := rel.fro
  have no : ∀ x, x ∉ owns (fro ρ) := fun x m => by
    obtain ⟨j, m⟩ := owns_mem.mp m
    rcases gt_fro ρ j with ⟨y, _, e⟩ | e
    · rw [e] at m; cases m
    · rw [e] at m; cases m
  have base : Rel X.K (cnOf (gLaw T i) F1 H1) F1 (fro ρ) n σ H1 := ⟨Ex.rfl l1, m1, r0.len, fun j => by
    have sl := r0.sl j
    rcases gt_fro ρ j with ⟨y, _, e⟩ | e
    · rw [e] at sl ⊢
      obtain ⟨v, e, d⟩ := sl
      exact ⟨v, e, d.le lF⟩
    · rw [e]
      trivial, r0.apart, fun x m => absurd m (no x)⟩
  have m1' : HG.Draw H1 i.1 i.2.1 i.2.2 n ∧ Tabs T H1 := m1
  have nD : ∀ x o, H1 x = some o → ((∃ xs, o = .tup xs) ∨ ∃ u v, o = .frz u v) → x ∉ [i.1, i.2.1] := fun x o e z m => by
    obtain ⟨_, gs, cs, left, turn, g1, g2, _⟩ := m1'.1
    simp only [List.mem_cons, List.not_mem_nil, or_false] at m
    rcases m with rfl | rfl
    · rw [g1] at e; cases e
      rcases z with ⟨_, z⟩ | ⟨_, _, z⟩ <;> cases z
    · rw [g2] at e; cases e
      rcases z with ⟨_, z⟩ | ⟨_, _, z⟩ <;> cases z
  have nT : ∀ p xs, SqT X.K H1 p xs → SqT X.K F1 p xs := fun p xs h => by
    rcases h with (h | ⟨o, h⟩) | h
    · exact .inl (.inl ((at1 p (nD _ _ h (.inl ⟨_, rfl⟩))).trans h))
    · exact .inl (.inr ⟨o, (at1 p (nD _ _ h (.inr ⟨_, _, rfl⟩))).trans h⟩)
    · exact .inr h
  have ddt : Dd X.K F1 (.ref t) (.tup [.tup (leftW (W'.map .str) ps), .lst ((leftBrs (W'.map .str) ps).map itD)]) := by
    rw [← rR, ← rB]
    exact .tup (nT _ _ ht) (.cons (.tup (nT _ _ ha) (strs_dd _)) (.cons (.lst (.inl (.inl ((at1 bl nex).trans hbl))) (brs_dd nT hB)) .nil))
  refine ⟨F1, H1, okC, F1, _, n, base.setD (i := it) ddt, mu _ _ _ _ (fun b m ⟨eb, qw⟩ F2 H2 x2 m2 => ?_) q⟩
  subst eb
  have hbl2 : H2 bl = some (.lst ys) := x2.le _ _ (x2.up _ _ ((at1 bl nex).trans hbl) fun _ z => nomatch z) fun _ z => nomatch z
  have lσ : σ.length = ρ.length := rel.len
  have g1 : (σ.set it (some (V.ref t)))[it]? = some (some (V.ref t)) := by rw [List.getElem?_set_self (by omega)]
  have g2 : ((σ.set it (some (V.ref t))).set ib (some (V.ref bl)))[ib]? = some (some (V.ref bl)) := by rw [List.getElem?_set_self (by rw [List.length_set]; omega)]
  have g3 : ((σ.set it (some (V.ref t))).set ib (some (V.ref bl)))[iw]? = some (some vw) := by
    rw [List.getElem?_set_ne (Ne.symm d2), List.getElem?_set_ne (Ne.symm d1)]
    exact getD_some e1
  have ly : ys.length ≤ 100 := by
    have h1 := hB.len
    have h2 : (B0.map gB).length = ps.length := by
      rw [rB]
      exact List.length_map ..
    rw [List.length_map] at h2
    omega
  refine ⟨_, g1, t, _, 1, .ref bl, rfl, rfl, sqT_keep x2.keep ht, rfl, ?_⟩
  refine ⟨_, g2, .inl ⟨rfl, _, SqL.of hbl2⟩, vw, g3, by show 2 ≤ sizeLine; decide, fun p np => ?_⟩
  have nep : bl ≠ p := fun z => by rw [← z, hbl2] at np; cases np
  refine ⟨bl, ys, .ref p, rfl, rfl, by rw [upd_ne nep]; exact hbl2, by omega, ?_⟩
  have chain : ∀ x o, H x = some o → x ∉ [i.1, i.2.1] → (∀ ps, o ≠ .tbl ps) → upd (upd H2 p (.tup [.int 0, vw])) bl (.lst (ys ++ [.ref p])) x = some o := fun x o e m nt => by
    have q2 : H2 x = some o := x2.le _ _ (x2.up _ _ ((at1 x m).trans (keepAll x o e)) nt) nt
    rw [upd_ne (fun z => by rw [z, nbl] at e; cases e), upd_ne (fun z => by rw [z, np] at q2; cases q2)]
    exact q2
  have up2 : ∀ x o, H2 x = some o → x ≠ bl → upd (upd H2 p (.tup [.int 0, vw])) bl (.lst (ys ++ [.ref p])) x = some o := fun x o e nb => by
    rw [upd_ne nb, upd_ne (fun z => by rw [z, np] at e; cases e)]
    exact e
  have nob : ∀ x o, H x = some o → x ≠ bl := fun x o e z => by rw [z, nbl] at e; cases e
  have xx : Ex (gLaw T i).pol F H F (upd (upd H2 p (.tup [.int 0, vw])) bl (.lst (ys ++ [.ref p]))) := by
    refine ⟨Le.rfl, fun x o e nt => chain x o (rel.le x o e nt) (fun m => ?_) nt, fun _ _ _ _ => rfl, ⟨fun x o e m nt => chain x o e m nt, fun x xs e => ?_, fun x o v e => ?_, fun x o e nt => ?_⟩, fun z => by cases z⟩
    · obtain ⟨ps, z⟩ := fx x m o e
      exact nt ps z
    · exact up2 _ _ (x2.keep.tup _ _ (keepAll _ _ e)) (nob _ _ e)
    · exact up2 _ _ (x2.keep.frz _ _ _ (keepAll _ _ e)) (nob _ _ e)
    · obtain ⟨o', h', t'⟩ := x2.keep.dom _ _ (keepAll _ _ e) nt
      exact ⟨o', up2 _ _ h' (nob _ _ e), t'⟩
  have mm : (gLaw T i).M m (upd (upd H2 p (.tup [.int 0, vw])) bl (.lst (ys ++ [.ref p]))) := by
    refine (gLaw T i).kp m H2 _ (fun x o e z => up2 x o e fun zb => ?_) m2
    rw [zb, hbl2] at e
    cases e
    rcases z with z | ⟨z, _⟩
    · rw [zb] at z
      obtain ⟨o, e, _⟩ := (gLaw T i).dm n H rel.m bl z
      rw [nbl] at e
      cases e
    · exact z _ rfl
  have relA := rel.stepG xx mm
  exact ⟨F, _, m, E, (relA.set (i := it) (s := .u) (v := .ref t) trivial fun _ z => nomatch z).set (i := ib) (s := .u) (v := .ref bl) trivial (fun _ z => nomatch z), ok', qw⟩
end L56
set_option maxHeartbeats 2000000
namespace L56
open PySem PySem.Spec PyProof.Rows L2 HG PU LamX
theorem kw_put_in : KwB "put_in" s_put_in ["word", "breaks"] ["breaks", "word"] := kwb2 fun _ _ _ _ _ _ _ _ => rfl
theorem kw_taken_out : KwB "taken_out" s_taken_out ["word", "pieces"] ["pieces", "word"] := kwb2 fun _ _ _ _ _ _ _ _ => rfl
theorem mo_Nil : Mo uNil := fun _ _ _ _ h u => h _ _ u
theorem mo_Var {i : Nat} : Mo (uVar i) := fun ρ n P Q j w => by
  unfold uVar at w ⊢
  split <;> rename_i e <;> simp only [e] at w <;> first | exact j _ _ w | exact w
theorem mo_cpx {a : SpD} {us : TDa} {E : XD} (m : MoSp a) (h : Mo us) : Mo (uCpX a E us) := fun ρ n P Q i w => h _ _ _ _ (fun ds k => m _ _ _ _ _ _ (fun d _ => i d k) fun _ _ _ _ z => z) w
theorem mx_cpx {a : SpD} {us : TDa} {E E' : XD} {ρ : List S} {n : Nat} {Q : D → Nat → Prop} (m : MoSp a) (h : Mo us) (j : ∀ c ns xs m, E c ns xs m → E' c ns xs m) (w : uCpX a E us ρ n Q) : uCpX a E' us ρ n Q :=
  h _ _ _ _ (fun ds k => m _ _ _ _ _ _ (fun _ _ z => z) fun c ns xs _ z => j c ns xs k z) w
abbrev NL : List Str := ["script", "state", "turn", "letters", "word", "gaps", "k", "breaks", "gap", "ends", "pieces", "due", "told", "back", "lap", "bent", "at", "right", "some", "bad"]
def loopOf : Stmt → List Stmt
  | .For _ _ c _ _ => c
  | _ => []
def testOf : Stmt → Expr
  | .If c _ _ _ => c
  | _ => .Constant .none 0 ⟨0, 0, 0, 0⟩
def bodyL : List Stmt := loopOf ((defBody s_law).getD 1 (.Pass ⟨0, 0, 0, 0⟩))
def bodyI : List Stmt := loopOf (bodyL.getD 14 (.Pass ⟨0, 0, 0, 0⟩))
structure LawX (P : Program) (w : World) (K : PySem.W.Frag) (mg : Str → Option Value) (base : Heap) (CE B CB CP cc Pt : Addr) (T : List (Addr × Str)) : Prop where
  D : DefC K mg "law" s_law ["script"] cc
  G : Teller K mg CE B CB CP
  TB : TabB base mg cc Pt
  hm : (Pt, qL) ∈ T
  hu_ : ∀ p ∈ T, p.1 = Pt → p.2 = qL
  d_put_in : Def K mg "put_in" s_put_in ["word", "breaks"]
  d_taken_out : Def K mg "taken_out" s_taken_out ["word", "pieces"]
  z_isinstance : mg "isinstance" = none
  z_len : mg "len" = none
  z_range : mg "range" = none
  z_repr : mg "repr" = none
  z_list : mg "list" = none
  z_sorted : mg "sorted" = none
  z_tuple : mg "tuple" = none
  c_begun : Callee P w K mg base CX0 1 "_law_begun" ["script"] (HG.sp_begun K)
  c__law_take : CalG P w K mg base CX0 2 "_law_take" ["state", "size"] gDraw sp_l_take
  c__law_pick : CalG P w K mg base CX0 3 "_law_pick" ["state", "some"] gDraw sp_l_pick
  c__law_letters : CalG P w K mg base CX0 4 "_law_letters" ["state", "many"] gDraw sp_l_letters
  c__law_word : CalG P w K mg base CX0 4 "_law_word" ["state", "letters", "most"] gDraw sp_l_word
  c__law_put : CalG P w K mg base CX0 1 "_law_put" ["word", "breaks"] (fun _ : Unit => gh0) (fun _ => sp_l_put)
  c__law_left : CalG P w K mg base CX0 1 "_law_left" ["word", "pieces"] (fun _ : Unit => gh0) (fun _ => sp_l_left)
  c__law_first : CalG P w K mg base CX0 2 "_law_first" ["word", "things", "is_break"] (fun _ : Unit => gh0) (fun _ => sp_l_first)
  c__law_bent : CalG P w K mg base CX0 4 "_law_bent" ["state", "word", "things", "is_break"] gDraw sp_l_bent
  c_out : HG.Callee P w K mg base (L2.CX P w) 5 "taken_out" ["word", "pieces"] (K56.sp_takenout K B CP)
  c_put_in : CalG P w K mg base (L2.CX P w) 7 "put_in" ["word", "breaks"] (fun _ : Unit => gh0) (fun _ => sp_put_in B CB)
  c_taken_out : CalG P w K mg base (L2.CX P w) 7 "taken_out" ["word", "pieces"] (fun _ : Unit => gh0) (fun _ => sp_taken_out B CP)
abbrev XL (P : Program) (w : World) (K : PySem.W.Frag) (mg : Str → Option Value) (base : Heap) (f cc : Addr) (A : Around) (outer : List Env) (s : Shared) (H : Hp) (E : XK) : Cx := (cxOf CX0 P w K mg base NL "law" (defScope s_law) f (.ref cc) A outer s H E).nox
abbrev AL (f cc : Addr) (A : Around) (s : Shared) : Around := A.deeper (envOfC "law" (defScope s_law) s.heap.objs.size f (.ref cc))
end L56
set_option maxHeartbeats 2000000
namespace L56
open PySem PySem.Spec PyProof.Rows L2 HG PU LamX
@[irreducible] def st_6 {P : Program} {w : World} {K : PySem.W.Frag} {mg : Str → Option Value} {base : Heap} {CE B CB CP cc Pt : Addr} {T : List (Addr × Str)} (h : LawX P w K mg base CE B CB CP cc Pt T) {f : Addr} {A : Around} {outer : List Env} {s : Shared} {H : Hp} {E : XK} (ng : NoG (AL f cc A s)) (hr : Room 10 (AL f cc A s)) (hu66 : (AL f cc A s).units + 66 < cLine) (i : Addr × Addr × Addr) :
    {wd : TDs // ∀ F0 H0, (cnOf (gLaw T i) F0 H0).Ok → US (XL P w K mg base f cc A outer s H E) (cnOf (gLaw T i) F0 H0) (bodyL.getD 6 (.Pass ⟨0, 0, 0, 0⟩)) wd} := by
  have nd : NL.Nodup := sc_law.nd
  have Lm : ∀ {scope : Scope}, lamSB (defScope s_law) scope = true → LamS (defScope s_law) scope := fun h => lamS_by h
  have hu := hr.units
  exact ⟨_, fun F0 H0 hC => have em : Emb (gDraw i) (cnOf (gLaw T i) F0 H0).toGh := emb_law; (us_set (i := 11) (uc_p h.c__law_put hr pass0 (ua_cons (ue_var (i := 4)) (ua_cons (ue_var (i := 7)) ua_nil))) nd)⟩
@[irreducible] def st_7 {P : Program} {w : World} {K : PySem.W.Frag} {mg : Str → Option Value} {base : Heap} {CE B CB CP cc Pt : Addr} {T : List (Addr × Str)} (h : LawX P w K mg base CE B CB CP cc Pt T) {f : Addr} {A : Around} {outer : List Env} {s : Shared} {H : Hp} {E : XK} (ng : NoG (AL f cc A s)) (hr : Room 10 (AL f cc A s)) (hu66 : (AL f cc A s).units + 66 < cLine) (i : Addr × Addr × Addr) :
    {wd : TDs // ∀ F0 H0, (cnOf (gLaw T i) F0 H0).Ok → US (XL P w K mg base f cc A outer s H E) (cnOf (gLaw T i) F0 H0) (bodyL.getD 7 (.Pass ⟨0, 0, 0, 0⟩)) wd} := by
  have nd : NL.Nodup := sc_law.nd
  have Lm : ∀ {scope : Scope}, lamSB (defScope s_law) scope = true → LamS (defScope s_law) scope := fun h => lamS_by h
  have hu := hr.units
  exact ⟨_, fun F0 H0 hC => have em : Emb (gDraw i) (cnOf (gLaw T i) F0 H0).toGh := emb_law; (us_if (ut_cmp (opd_neA hu) (ue_callB (cd_repr ng hu66) h.z_repr (ua_cons (UL.ue (ul_lst (ua_cons (uc_p h.c_put_in hr passL (ua_cons (ue_var (i := 4)) (ua_cons (ue_var (i := 7)) ua_nil))) (ua_cons (uc_k h.c_put_in h.d_put_in kw_put_in hr passL (uk_cons (ue_callTy cd_tuple h.z_tuple (ua_cons (ue_var (i := 7)) ua_nil)) (uk_cons (ue_var (i := 4)) uk_nil))) ua_nil)))) ua_nil)) (ue_callB (cd_repr ng hu66) h.z_repr (ua_cons (UL.ue (ul_lst (ua_cons (ue_var (i := 11)) (ua_cons (ue_var (i := 11)) ua_nil)))) ua_nil))) (us_one (us_ret ue_bl)) us_nil)⟩
@[irreducible] def st_8 {P : Program} {w : World} {K : PySem.W.Frag} {mg : Str → Option Value} {base : Heap} {CE B CB CP cc Pt : Addr} {T : List (Addr × Str)} (h : LawX P w K mg base CE B CB CP cc Pt T) {f : Addr} {A : Around} {outer : List Env} {s : Shared} {H : Hp} {E : XK} (ng : NoG (AL f cc A s)) (hr : Room 10 (AL f cc A s)) (hu66 : (AL f cc A s).units + 66 < cLine) (i : Addr × Addr × Addr) :
    {wd : TDs // ∀ F0 H0, (cnOf (gLaw T i) F0 H0).Ok → US (XL P w K mg base f cc A outer s H E) (cnOf (gLaw T i) F0 H0) (bodyL.getD 8 (.Pass ⟨0, 0, 0, 0⟩)) wd} := by
  have nd : NL.Nodup := sc_law.nd
  have Lm : ∀ {scope : Scope}, lamSB (defScope s_law) scope = true → LamS (defScope s_law) scope := fun h => lamS_by h
  have hu := hr.units
  exact ⟨_, fun F0 H0 hC => have em : Emb (gDraw i) (cnOf (gLaw T i) F0 H0).toGh := emb_law; (us_set (i := 11) (uc_p h.c__law_left hr pass0 (ua_cons (ue_var (i := 4)) (ua_cons (ue_var (i := 10)) ua_nil))) nd)⟩
end L56
set_option maxHeartbeats 2000000
namespace L56
open PySem PySem.Spec PyProof.Rows L2 HG PU LamX
@[irreducible] def st_3 {P : Program} {w : World} {K : PySem.W.Frag} {mg : Str → Option Value} {base : Heap} {CE B CB CP cc Pt : Addr} {T : List (Addr × Str)} (h : LawX P w K mg base CE B CB CP cc Pt T) {f : Addr} {A : Around} {outer : List Env} {s : Shared} {H : Hp} {E : XK} (ng : NoG (AL f cc A s)) (hr : Room 10 (AL f cc A s)) (hu66 : (AL f cc A s).units + 66 < cLine) (i : Addr × Addr × Addr) :
    {wd : TDs // ∀ F0 H0, (cnOf (gLaw T i) F0 H0).Ok → US (XL P w K mg base f cc A outer s H E) (cnOf (gLaw T i) F0 H0) (bodyL.getD 3 (.Pass ⟨0, 0, 0, 0⟩)) wd} := by
  have nd : NL.Nodup := sc_law.nd
  have Lm : ∀ {scope : Scope}, lamSB (defScope s_law) scope = true → LamS (defScope s_law) scope := fun h => lamS_by h
  have hu := hr.units
  exact ⟨_, fun F0 H0 hC => have em : Emb (gDraw i) (cnOf (gLaw T i) F0 H0).toGh := emb_law; (us_setLc (i := 7) (own := [("gap", 8)]) hC nd (ui_row (ue_var (i := 5))) (blkOk_by (own := [("gap", 8)]) (N := ["script", "state", "turn", "letters", "word", "gaps", "k", "breaks", "gap", "ends", "pieces", "due", "told", "back", "lap", "bent", "at", "right", "some", "bad"]) (sc := defScope s_law) (by decide +kernel)) (fun _ _ _ _ _ => (ug_name (i := 8) nd)) (fun _ _ _ _ _ => uts_nil) (fun _ _ _ _ _ => (ue_tup (ua_cons (ue_var (i := 8)) (ua_cons (uc_e i em hC h.c__law_word hr pass0 (ua_cons (ue_var (i := 1)) (ua_cons (ue_var (i := 3)) (ua_cons ue_int ua_nil)))) ua_nil)))))⟩
@[irreducible] def st_4 {P : Program} {w : World} {K : PySem.W.Frag} {mg : Str → Option Value} {base : Heap} {CE B CB CP cc Pt : Addr} {T : List (Addr × Str)} (h : LawX P w K mg base CE B CB CP cc Pt T) {f : Addr} {A : Around} {outer : List Env} {s : Shared} {H : Hp} {E : XK} (ng : NoG (AL f cc A s)) (hr : Room 10 (AL f cc A s)) (hu66 : (AL f cc A s).units + 66 < cLine) (i : Addr × Addr × Addr) :
    {wd : TDs // ∀ F0 H0, (cnOf (gLaw T i) F0 H0).Ok → US (XL P w K mg base f cc A outer s H E) (cnOf (gLaw T i) F0 H0) (bodyL.getD 4 (.Pass ⟨0, 0, 0, 0⟩)) wd} := by
  have nd : NL.Nodup := sc_law.nd
  have Lm : ∀ {scope : Scope}, lamSB (defScope s_law) scope = true → LamS (defScope s_law) scope := fun h => lamS_by h
  have hu := hr.units
  exact ⟨_, fun F0 H0 hC => have em : Emb (gDraw i) (cnOf (gLaw T i) F0 H0).toGh := emb_law; (us_set (i := 9) (UL.ue (ul_callB cl_sortedI h.z_sorted (ua_cons (UL.ue (ul_lc (own := [("k", 6)]) hC nd (ui_range1 (ua_cons (ue_op opd_mul ue_int (uc_e i em hC h.c__law_take hr pass0 (ua_cons (ue_var (i := 1)) (ua_cons ue_int ua_nil)))) ua_nil) h.z_range) (blkOk_by (own := [("k", 6)]) (N := ["script", "state", "turn", "letters", "word", "gaps", "k", "breaks", "gap", "ends", "pieces", "due", "told", "back", "lap", "bent", "at", "right", "some", "bad"]) (sc := defScope s_law) (by decide +kernel)) (fun _ _ _ _ _ => (ug_name (i := 6) nd)) (fun _ _ _ _ _ => uts_nil) (fun _ _ _ _ _ => (uc_e i em hC h.c__law_take hr pass0 (ua_cons (ue_var (i := 1)) (ua_cons (ue_op opd_plus (ue_callB cd_len h.z_len (ua_cons (ue_var (i := 4)) ua_nil)) ue_int) ua_nil)))))) ua_nil))) nd)⟩
@[irreducible] def st_5 {P : Program} {w : World} {K : PySem.W.Frag} {mg : Str → Option Value} {base : Heap} {CE B CB CP cc Pt : Addr} {T : List (Addr × Str)} (h : LawX P w K mg base CE B CB CP cc Pt T) {f : Addr} {A : Around} {outer : List Env} {s : Shared} {H : Hp} {E : XK} (ng : NoG (AL f cc A s)) (hr : Room 10 (AL f cc A s)) (hu66 : (AL f cc A s).units + 66 < cLine) (i : Addr × Addr × Addr) :
    {wd : TDs // ∀ F0 H0, (cnOf (gLaw T i) F0 H0).Ok → US (XL P w K mg base f cc A outer s H E) (cnOf (gLaw T i) F0 H0) (bodyL.getD 5 (.Pass ⟨0, 0, 0, 0⟩)) wd} := by
  have nd : NL.Nodup := sc_law.nd
  have Lm : ∀ {scope : Scope}, lamSB (defScope s_law) scope = true → LamS (defScope s_law) scope := fun h => lamS_by h
  have hu := hr.units
  exact ⟨_, fun F0 H0 hC => have em : Emb (gDraw i) (cnOf (gLaw T i) F0 H0).toGh := emb_law; (us_setLc (i := 10) (own := [("k", 6)]) hC nd (ui_range1 (ua_cons (ue_op opd_fdiv (ue_callB cd_len h.z_len (ua_cons (ue_var (i := 9)) ua_nil)) ue_int) ua_nil) h.z_range) (blkOk_by (own := [("k", 6)]) (N := ["script", "state", "turn", "letters", "word", "gaps", "k", "breaks", "gap", "ends", "pieces", "due", "told", "back", "lap", "bent", "at", "right", "some", "bad"]) (sc := defScope s_law) (by decide +kernel)) (fun _ _ _ _ _ => (ug_name (i := 6) nd)) (fun _ _ _ _ _ => uts_nil) (fun _ _ _ _ _ => (ue_tup (ua_cons (ue_ix (ue_var (i := 9)) (ue_op opd_mul ue_int (ue_var (i := 6)))) (ua_cons (ue_op opd_sub (ue_ix (ue_var (i := 9)) (ue_op opd_plus (ue_op opd_mul ue_int (ue_var (i := 6))) ue_int)) (ue_ix (ue_var (i := 9)) (ue_op opd_mul ue_int (ue_var (i := 6))))) ua_nil)))))⟩
end L56
set_option maxHeartbeats 2000000
namespace L56
open PySem PySem.Spec PyProof.Rows L2 HG PU LamX
@[irreducible] def st_0 {P : Program} {w : World} {K : PySem.W.Frag} {mg : Str → Option Value} {base : Heap} {CE B CB CP cc Pt : Addr} {T : List (Addr × Str)} (h : LawX P w K mg base CE B CB CP cc Pt T) {f : Addr} {A : Around} {outer : List Env} {s : Shared} {H : Hp} {E : XK} (ng : NoG (AL f cc A s)) (hr : Room 10 (AL f cc A s)) (hu66 : (AL f cc A s).units + 66 < cLine) (i : Addr × Addr × Addr) :
    {wd : TDs // ∀ F0 H0, (cnOf (gLaw T i) F0 H0).Ok → US (XL P w K mg base f cc A outer s H E) (cnOf (gLaw T i) F0 H0) (bodyL.getD 0 (.Pass ⟨0, 0, 0, 0⟩)) wd} := by
  have nd : NL.Nodup := sc_law.nd
  have Lm : ∀ {scope : Scope}, lamSB (defScope s_law) scope = true → LamS (defScope s_law) scope := fun h => lamS_by h
  have hu := hr.units
  exact ⟨_, fun F0 H0 hC => have em : Emb (gDraw i) (cnOf (gLaw T i) F0 H0).toGh := emb_law; (us_set (i := 3) (uc_e i em hC h.c__law_letters hr pass0 (ua_cons (ue_var (i := 1)) (ua_cons (ue_op opd_plus ue_int (uc_e i em hC h.c__law_take hr pass0 (ua_cons (ue_var (i := 1)) (ua_cons ue_int ua_nil)))) ua_nil))) nd)⟩
@[irreducible] def st_1 {P : Program} {w : World} {K : PySem.W.Frag} {mg : Str → Option Value} {base : Heap} {CE B CB CP cc Pt : Addr} {T : List (Addr × Str)} (h : LawX P w K mg base CE B CB CP cc Pt T) {f : Addr} {A : Around} {outer : List Env} {s : Shared} {H : Hp} {E : XK} (ng : NoG (AL f cc A s)) (hr : Room 10 (AL f cc A s)) (hu66 : (AL f cc A s).units + 66 < cLine) (i : Addr × Addr × Addr) :
    {wd : TDs // ∀ F0 H0, (cnOf (gLaw T i) F0 H0).Ok → US (XL P w K mg base f cc A outer s H E) (cnOf (gLaw T i) F0 H0) (bodyL.getD 1 (.Pass ⟨0, 0, 0, 0⟩)) wd} := by
  have nd : NL.Nodup := sc_law.nd
  have Lm : ∀ {scope : Scope}, lamSB (defScope s_law) scope = true → LamS (defScope s_law) scope := fun h => lamS_by h
  have hu := hr.units
  exact ⟨_, fun F0 H0 hC => have em : Emb (gDraw i) (cnOf (gLaw T i) F0 H0).toGh := emb_law; (us_set (i := 4) (uc_e i em hC h.c__law_word hr pass0 (ua_cons (ue_var (i := 1)) (ua_cons (ue_var (i := 3)) (ua_cons ue_int ua_nil)))) nd)⟩
@[irreducible] def st_2 {P : Program} {w : World} {K : PySem.W.Frag} {mg : Str → Option Value} {base : Heap} {CE B CB CP cc Pt : Addr} {T : List (Addr × Str)} (h : LawX P w K mg base CE B CB CP cc Pt T) {f : Addr} {A : Around} {outer : List Env} {s : Shared} {H : Hp} {E : XK} (ng : NoG (AL f cc A s)) (hr : Room 10 (AL f cc A s)) (hu66 : (AL f cc A s).units + 66 < cLine) (i : Addr × Addr × Addr) :
    {wd : TDs // ∀ F0 H0, (cnOf (gLaw T i) F0 H0).Ok → US (XL P w K mg base f cc A outer s H E) (cnOf (gLaw T i) F0 H0) (bodyL.getD 2 (.Pass ⟨0, 0, 0, 0⟩)) wd} := by
  have nd : NL.Nodup := sc_law.nd
  have Lm : ∀ {scope : Scope}, lamSB (defScope s_law) scope = true → LamS (defScope s_law) scope := fun h => lamS_by h
  have hu := hr.units
  exact ⟨_, fun F0 H0 hC => have em : Emb (gDraw i) (cnOf (gLaw T i) F0 H0).toGh := emb_law; (us_set (i := 5) (UL.ue (ul_callB cl_sortedI h.z_sorted (ua_cons (UL.ue (ul_lc (own := [("k", 6)]) hC nd (ui_range1 (ua_cons (uc_e i em hC h.c__law_take hr pass0 (ua_cons (ue_var (i := 1)) (ua_cons ue_int ua_nil))) ua_nil) h.z_range) (blkOk_by (own := [("k", 6)]) (N := ["script", "state", "turn", "letters", "word", "gaps", "k", "breaks", "gap", "ends", "pieces", "due", "told", "back", "lap", "bent", "at", "right", "some", "bad"]) (sc := defScope s_law) (by decide +kernel)) (fun _ _ _ _ _ => (ug_name (i := 6) nd)) (fun _ _ _ _ _ => uts_nil) (fun _ _ _ _ _ => (uc_e i em hC h.c__law_take hr pass0 (ua_cons (ue_var (i := 1)) (ua_cons (ue_op opd_plus (ue_callB cd_len h.z_len (ua_cons (ue_var (i := 4)) ua_nil)) ue_int) ua_nil)))))) ua_nil))) nd)⟩
end L56
set_option maxHeartbeats 2000000
namespace L56
open PySem PySem.Spec PyProof.Rows L2 HG PU LamX
theorem nats_of {gs : List Nat} {ns : List Int} (pm : ns.Perm (gs.map fun g : Nat => (g : Int))) (so : ns.Pairwise (· ≤ ·)) : ∃ ks : List Nat, ns = ks.map (fun g : Nat => (g : Int)) ∧ ks.length = gs.length ∧ (∀ k ∈ ks, k ∈ gs) ∧ ks.Pairwise (· ≤ ·) := by
  have hm : ∀ a ∈ ns, ∃ g ∈ gs, (g : Int) = a := fun a ha => by
    have := pm.mem_iff.mp ha
    obtain ⟨g, hg, e⟩ := List.mem_map.mp this
    exact ⟨g, hg, e⟩
  have e : ns = (ns.map Int.toNat).map (fun g : Nat => (g : Int)) := by
    rw [List.map_map]
    conv => lhs; rw [← List.map_id ns]
    refine List.map_congr_left fun a ha => ?_
    obtain ⟨g, _, rfl⟩ := hm a ha
    rfl
  refine ⟨ns.map Int.toNat, e, by rw [List.length_map, pm.length_eq, List.length_map], fun k hk => ?_, ?_⟩
  · obtain ⟨a, ha, rfl⟩ := List.mem_map.mp hk
    obtain ⟨g, hg, rfl⟩ := hm a ha
    exact hg
  · rw [List.pairwise_map]
    exact so.imp fun hab => by omega
section
variable {P : Program} {w : World} {K : PySem.W.Frag} {mg : Str → Option Value} {base : Heap} {CE B CB CP cc Pt : Addr} {T : List (Addr × Str)} (h : LawX P w K mg base CE B CB CP cc Pt T) {f : Addr} {A : Around} {outer : List Env} {s : Shared} {H : Hp} {E : XK} (ng : NoG (AL f cc A s)) (hr : Room 10 (AL f cc A s)) (hu66 : (AL f cc A s).units + 66 < cLine) {i : Addr × Addr × Addr}
theorem rd_0 {Ed : EndD} {n : Nat} {sc : D} {y2 y3 y4 y5 y6 y7 y8 y9 y10 y11 y12 y13 y14 y15 y16 y17 y18 y19 : S} (hn : n < 999000000)
    (q : ∀ (Ls : List Str) (m : Nat), m ≤ n + 70 → 1 ≤ Ls.length → Ls.length ≤ 3 → (∀ z ∈ Ls, letS z = true) → Ed.nx [.d sc, .d (.ref i.1), y2, .d (.lst (Ls.map .str)), y4, y5, y6, y7, y8, y9, y10, y11, y12, y13, y14, y15, y16, y17, y18, y19] m) :
    (st_0 h (outer := outer) (H := H) (E := E) ng hr hu66 i).1 Ed [.d sc, .d (.ref i.1), y2, y3, y4, y5, y6, y7, y8, y9, y10, y11, y12, y13, y14, y15, y16, y17, y18, y19] n := by
  have sz : sizeLine = 16777216 := sizeLine_eq
  unfold st_0
  dsimp only
  refine ⟨3, rfl, by omega, by decide, by decide, fun r r0 r1 => ?_⟩
  refine ⟨(1 + r).toNat, by show _ = [D.ref i.1, D.int (((1 + r).toNat : Nat) : Int)]; rw [Int.toNat_of_nonneg (by omega)], ⟨by omega, by omega, by omega⟩, fun d m hd => ?_⟩
  obtain ⟨hm, L, rfl, hL, hG⟩ := hd
  exact q L m (by omega) (by omega) (by omega) hG
theorem rd_1 {Ed : EndD} {n : Nat} {sc : D} {y2 y4 y5 y6 y7 y8 y9 y10 y11 y12 y13 y14 y15 y16 y17 y18 y19 : S} {Ls : List Str} (hn : n < 999000000) (l1 : 1 ≤ Ls.length) (l2 : Ls.length ≤ 3) (l3 : ∀ z ∈ Ls, letS z = true)
    (q : ∀ (W : List Str) (m : Nat), m ≤ n + 20 → W.length ≤ 8 → (∀ z ∈ W, letS z = true) → Ed.nx [.d sc, .d (.ref i.1), y2, .d (.lst (Ls.map .str)), .d (.tup (W.map .str)), y5, y6, y7, y8, y9, y10, y11, y12, y13, y14, y15, y16, y17, y18, y19] m) :
    (st_1 h (outer := outer) (H := H) (E := E) ng hr hu66 i).1 Ed [.d sc, .d (.ref i.1), y2, .d (.lst (Ls.map .str)), y4, y5, y6, y7, y8, y9, y10, y11, y12, y13, y14, y15, y16, y17, y18, y19] n := by
  have sz : sizeLine = 16777216 := sizeLine_eq
  unfold st_1
  dsimp only
  refine ⟨(Ls, 8), rfl, ⟨l1, l2, by show 8 ≤ 8; omega, by omega, l3⟩, fun d m hd => ?_⟩
  obtain ⟨hm, W, rfl, hW, hG⟩ := hd
  exact q W m hm hW hG
theorem rd_2 {Ed : EndD} {n : Nat} {sc : D} {y2 y5 y6 y7 y8 y9 y10 y11 y12 y13 y14 y15 y16 y17 y18 y19 : S} {Ls W : List Str} (hn : n < 999000000) (hW : W.length ≤ 8)
    (q : ∀ (gs : List Nat) (m : Nat), m ≤ n + 10 → gs.length ≤ 4 → gs.Pairwise (· ≤ ·) → (∀ g ∈ gs, g ≤ W.length) → Ed.nx [.d sc, .d (.ref i.1), y2, .d (.lst (Ls.map .str)), .d (.tup (W.map .str)), .d (.lst (kd gs)), y6, y7, y8, y9, y10, y11, y12, y13, y14, y15, y16, y17, y18, y19] m) :
    (st_2 h (outer := outer) (H := H) (E := E) ng hr hu66 i).1 Ed [.d sc, .d (.ref i.1), y2, .d (.lst (Ls.map .str)), .d (.tup (W.map .str)), y5, y6, y7, y8, y9, y10, y11, y12, y13, y14, y15, y16, y17, y18, y19] n := by
  have sz : sizeLine = 16777216 := sizeLine_eq
  unfold st_2
  dsimp only
  refine ⟨5, rfl, by omega, by decide, by decide, fun r r0 r1 => ?_⟩
  refine ⟨⟨by omega, by omega⟩, fun e acc m => m ≤ n + 1 + e ∧ ∃ gs : List Nat, acc = kd gs ∧ gs.length = e ∧ ∀ g ∈ gs, g ≤ W.length, ⟨by omega, [], rfl, rfl, fun _ z => nomatch z⟩, fun e x acc m hx hp => ?_, fun acc m hp => ?_⟩
  · obtain ⟨hm, gs, rfl, hg, ha⟩ := hp
    obtain ⟨he, rfl⟩ := rg_get hx
    have lW : (W.map D.str).length = W.length := List.length_map ..
    refine ⟨((W.map D.str).length : Int) + 1, rfl, by omega, by omega, by omega, fun g g0 g1 => ?_⟩
    refine ⟨by rw [kd_len]; omega, by omega, gs ++ [g.toNat], by rw [kd_app]; show _ = kd gs ++ [D.int ((g.toNat : Nat) : Int)]; rw [Int.toNat_of_nonneg g0], by rw [List.length_append, hg]; rfl, fun z hz => ?_⟩
    rcases List.mem_append.mp hz with hz | hz
    · exact ha z hz
    · rw [List.mem_singleton.mp hz]
      omega
  · obtain ⟨hm, gs, rfl, hg, ha⟩ := hp
    rw [rg_len] at hm hg
    refine ⟨gs.map fun g : Nat => (g : Int), by unfold kd; rw [List.map_map]; rfl, by rw [List.length_map]; omega, fun ns' pm so => ?_⟩
    obtain ⟨ks, rfl, kl, ka, ks'⟩ := nats_of pm so
    have := q ks m (by omega) (by rw [kl]; omega) ks' fun g hg' => ha g (ka g hg')
    unfold kd at this
    rw [List.map_map]
    exact this
end
end L56
set_option maxHeartbeats 2000000
namespace L56
open PySem PySem.Spec PyProof.Rows L2 HG PU LamX
theorem all_lets {U : List Str} (h : ∀ z ∈ U, letS z = true) : (U.map D.str).all isLet = true := by
  rw [List.all_map, List.all_eq_true]
  exact fun z m => h z m
theorem up_of {len : Nat} : ∀ {bs : List Br} {gs : List Nat} {a : Nat}, bs.map (·.1) = gs → gs.Pairwise (· ≤ ·) → (∀ g ∈ gs, g ≤ len) → (∀ g ∈ gs, a ≤ g) → Up len a bs
  | [], _, _, _, _, _, _ => trivial
  | (n, U) :: r, gs, a, e, so, h1, h2 => by
    subst e
    rw [List.map_cons, List.pairwise_cons] at so
    exact ⟨h2 n List.mem_cons_self, h1 n List.mem_cons_self, up_of rfl so.2 (fun g m => h1 g (List.mem_cons_of_mem _ m)) fun g m => so.1 g m⟩
theorem ix_lk {xs : List D} {z : Int} {k : Nat} {d : D} {Q : D → Prop} (e : z = k) (h : xs[k]? = some d) (q : Q d) : rIx (.lst xs) (.int z) Q := by
  subst e
  exact ix_l h q
def pcsR : List Nat → List Pi2
  | a :: b :: r => (a, b - a) :: pcsR r
  | _ => []
theorem pcs_len : ∀ es : List Nat, (pcsR es).length = es.length / 2
  | [] => rfl
  | [_] => by simp [pcsR]
  | a :: b :: r => by
    show (pcsR r).length + 1 = (r.length + 2) / 2
    rw [pcs_len r]
    omega
theorem pcs_get : ∀ {k : Nat} {es : List Nat} {a b : Nat}, es[2 * k]? = some a → es[2 * k + 1]? = some b → (pcsR es)[k]? = some (a, b - a)
  | 0, a :: b :: r, _, _, h1, h2 => by
    cases h1
    cases h2
    rfl
  | k + 1, a :: b :: r, x, y, h1, h2 => by
    have e1 : (a :: b :: r)[2 * (k + 1)]? = r[2 * k]? := rfl
    have e2 : (a :: b :: r)[2 * (k + 1) + 1]? = r[2 * k + 1]? := rfl
    exact pcs_get (k := k) (e1.symm.trans h1) (e2.symm.trans h2)
  | k, [], _, _, h1, h2 => by simp at h1
  | k, [z], _, _, h1, h2 => by simp at h2
theorem pcs_up {len : Nat} : ∀ {es : List Nat} {a : Nat}, es.Pairwise (· ≤ ·) → (∀ g ∈ es, g ≤ len) → (∀ g ∈ es, a ≤ g) → Up2 len a (pcsR es)
  | [], _, _, _, _ => trivial
  | [_], _, _, _, _ => trivial
  | x :: y :: r, a, so, h1, h2 => by
    rw [List.pairwise_cons, List.pairwise_cons] at so
    have xy : x ≤ y := so.1 y List.mem_cons_self
    have hy := h1 y (by simp)
    refine ⟨h2 x List.mem_cons_self, by show x + (y - x) ≤ len; omega, ?_⟩
    show Up2 len (x + (y - x)) (pcsR r)
    rw [show x + (y - x) = y by omega]
    exact pcs_up so.2.2 (fun g m => h1 g (by simp [m])) so.2.1
section
variable {P : Program} {w : World} {K : PySem.W.Frag} {mg : Str → Option Value} {base : Heap} {CE B CB CP cc Pt : Addr} {T : List (Addr × Str)} (h : LawX P w K mg base CE B CB CP cc Pt T) {f : Addr} {A : Around} {outer : List Env} {s : Shared} {H : Hp} {E : XK} (ng : NoG (AL f cc A s)) (hr : Room 10 (AL f cc A s)) (hu66 : (AL f cc A s).units + 66 < cLine) {i : Addr × Addr × Addr}
theorem rd_3 {Ed : EndD} {n : Nat} {sc : D} {y2 y6 y7 y8 y9 y10 y11 y12 y13 y14 y15 y16 y17 y18 y19 : S} {Ls W : List Str} {gs : List Nat} (hn : n < 999000000) (l1 : 1 ≤ Ls.length) (l2 : Ls.length ≤ 3) (l3 : ∀ z ∈ Ls, letS z = true) (hg : gs.length ≤ 4) (so : gs.Pairwise (· ≤ ·)) (hW : ∀ g ∈ gs, g ≤ W.length)
    (q : ∀ (bs : List Br) (m : Nat), m ≤ n + 100 → bs.length ≤ 4 → Up W.length 0 bs → (∀ b ∈ bs, b.2.length ≤ 3 ∧ b.2.all isLet = true) → Ed.nx [.d sc, .d (.ref i.1), y2, .d (.lst (Ls.map .str)), .d (.tup (W.map .str)), .d (.lst (kd gs)), y6, .d (.lst (bs.map itD)), y8, y9, y10, y11, y12, y13, y14, y15, y16, y17, y18, y19] m) :
    (st_3 h (outer := outer) (H := H) (E := E) ng hr hu66 i).1 Ed [.d sc, .d (.ref i.1), y2, .d (.lst (Ls.map .str)), .d (.tup (W.map .str)), .d (.lst (kd gs)), y6, y7, y8, y9, y10, y11, y12, y13, y14, y15, y16, y17, y18, y19] n := by
  have sz : sizeLine = 16777216 := sizeLine_eq
  unfold st_3
  dsimp only
  refine ⟨fun e acc m => m ≤ n + 20 * e ∧ ∃ bs : List Br, acc = bs.map itD ∧ bs.map (·.1) = gs.take e ∧ ∀ b ∈ bs, b.2.length ≤ 3 ∧ b.2.all isLet = true, ⟨by omega, [], rfl, rfl, fun _ z => nomatch z⟩, fun e x acc m hx hp => ?_, fun acc m hp => ?_⟩
  · obtain ⟨hm, bs, rfl, hb, ha⟩ := hp
    obtain ⟨g, hg', rfl⟩ := getmap hx
    have he := (List.getElem?_eq_some_iff.mp hg').1
    have hl : bs.length = e := by
      have := congrArg List.length hb
      rw [List.length_map, List.length_take] at this
      omega
    refine ⟨(Ls, 3), rfl, ⟨l1, l2, by show 3 ≤ 8; omega, by omega, l3⟩, fun d m2 hd => ?_⟩
    obtain ⟨hm2, U, rfl, hU, hG⟩ := hd
    refine ⟨by show 2 ≤ sizeLine; decide, by rw [List.length_map]; omega, by omega, bs ++ [(g, U.map .str)], by rw [List.map_append]; rfl, by rw [List.map_append, hb, List.take_succ, hg']; rfl, fun b hb' => ?_⟩
    rcases List.mem_append.mp hb' with hb' | hb'
    · exact ha b hb'
    · rw [List.mem_singleton.mp hb']
      exact ⟨by show (U.map D.str).length ≤ 3; rw [List.length_map]; exact hU, all_lets hG⟩
  · obtain ⟨hm, bs, rfl, hb, ha⟩ := hp
    have kl : (kd gs).length = gs.length := kd_len
    have hm : m ≤ n + 20 * (kd gs).length := hm
    have hb : bs.map (·.1) = gs.take (kd gs).length := hb
    rw [kl] at hb hm
    rw [List.take_length] at hb
    have hl : bs.length = gs.length := by
      have := congrArg List.length hb
      rwa [List.length_map] at this
    exact q bs m (by omega) (by omega) (up_of hb so hW (fun _ _ => Nat.zero_le _)) ha
theorem rd_4 {Ed : EndD} {n : Nat} {sc : D} {y2 y5 y6 y8 y9 y10 y11 y12 y13 y14 y15 y16 y17 y18 y19 sb : S} {Ls W : List Str} (hn : n < 999000000) (hW : W.length ≤ 8)
    (q : ∀ (gs : List Nat) (m : Nat), m ≤ n + 10 → gs.length ≤ 6 → gs.Pairwise (· ≤ ·) → (∀ g ∈ gs, g ≤ W.length) → Ed.nx [.d sc, .d (.ref i.1), y2, .d (.lst (Ls.map .str)), .d (.tup (W.map .str)), y5, y6, sb, y8, .d (.lst (kd gs)), y10, y11, y12, y13, y14, y15, y16, y17, y18, y19] m) :
    (st_4 h (outer := outer) (H := H) (E := E) ng hr hu66 i).1 Ed [.d sc, .d (.ref i.1), y2, .d (.lst (Ls.map .str)), .d (.tup (W.map .str)), y5, y6, sb, y8, y9, y10, y11, y12, y13, y14, y15, y16, y17, y18, y19] n := by
  have sz : sizeLine = 16777216 := sizeLine_eq
  unfold st_4
  dsimp only
  refine ⟨4, rfl, by omega, by decide, by decide, fun r r0 r1 => ?_⟩
  refine ⟨.inl ⟨by decide, by decide⟩, ⟨by omega, by omega⟩, fun e acc m => m ≤ n + 1 + e ∧ ∃ gs : List Nat, acc = kd gs ∧ gs.length = e ∧ ∀ g ∈ gs, g ≤ W.length, ⟨by omega, [], rfl, rfl, fun _ z => nomatch z⟩, fun e x acc m hx hp => ?_, fun acc m hp => ?_⟩
  · obtain ⟨hm, gs, rfl, hg, ha⟩ := hp
    obtain ⟨he, rfl⟩ := rg_get hx
    have lW : (W.map D.str).length = W.length := List.length_map ..
    refine ⟨((W.map D.str).length : Int) + 1, rfl, by omega, by omega, by omega, fun g g0 g1 => ?_⟩
    refine ⟨by rw [kd_len]; omega, by omega, gs ++ [g.toNat], by rw [kd_app]; show _ = kd gs ++ [D.int ((g.toNat : Nat) : Int)]; rw [Int.toNat_of_nonneg g0], by rw [List.length_append, hg]; rfl, fun z hz => ?_⟩
    rcases List.mem_append.mp hz with hz | hz
    · exact ha z hz
    · rw [List.mem_singleton.mp hz]
      omega
  · obtain ⟨hm, gs, rfl, hg, ha⟩ := hp
    rw [rg_len] at hm hg
    refine ⟨gs.map fun g : Nat => (g : Int), by unfold kd; rw [List.map_map]; rfl, by rw [List.length_map]; omega, fun ns' pm so => ?_⟩
    obtain ⟨ks, rfl, kl, ka, ks'⟩ := nats_of pm so
    have := q ks m (by omega) (by rw [kl]; omega) ks' fun g hg' => ha g (ka g hg')
    unfold kd at this
    rw [List.map_map]
    exact this
theorem rd_5 {Ed : EndD} {n : Nat} {sc : D} {y2 y5 y6 y8 y10 y11 y12 y13 y14 y15 y16 y17 y18 y19 sb : S} {Ls W : List Str} {es : List Nat} (hn : n < 999000000) (hl : es.length ≤ 6) (so : es.Pairwise (· ≤ ·)) (hW : ∀ g ∈ es, g ≤ W.length)
    (q : ∀ (ps : List Pi2), ps.length ≤ 3 → Up2 W.length 0 ps → Ed.nx [.d sc, .d (.ref i.1), y2, .d (.lst (Ls.map .str)), .d (.tup (W.map .str)), y5, y6, sb, y8, .d (.lst (kd es)), .d (.lst (ps.map piD)), y11, y12, y13, y14, y15, y16, y17, y18, y19] n) :
    (st_5 h (outer := outer) (H := H) (E := E) ng hr hu66 i).1 Ed [.d sc, .d (.ref i.1), y2, .d (.lst (Ls.map .str)), .d (.tup (W.map .str)), y5, y6, sb, y8, .d (.lst (kd es)), y10, y11, y12, y13, y14, y15, y16, y17, y18, y19] n := by
  have sz : sizeLine = 16777216 := sizeLine_eq
  unfold st_5
  dsimp only
  have kl : (kd es).length = es.length := kd_len
  refine ⟨⟨by decide, by decide⟩, ⟨by omega, by omega⟩, fun e acc m => m = n ∧ acc = ((pcsR es).take e).map piD, ⟨rfl, rfl⟩, fun e x acc m hx hp => ?_, fun acc m hp => ?_⟩
  · obtain ⟨rfl, rfl⟩ := hp
    obtain ⟨he, rfl⟩ := rg_get hx
    have h1 : 2 * e + 1 < es.length := by omega
    have g0 : (kd es)[2 * e]? = some (.int ((es[2 * e]'(by omega) : Nat) : Int)) := by
      unfold kd
      rw [List.getElem?_map, List.getElem?_eq_getElem (by omega)]
      rfl
    have g1 : (kd es)[2 * e + 1]? = some (.int ((es[2 * e + 1]'h1 : Nat) : Int)) := by
      unfold kd
      rw [List.getElem?_map, List.getElem?_eq_getElem h1]
      rfl
    have pg := pcs_get (k := e) (List.getElem?_eq_getElem (show 2 * e < es.length by omega)) (List.getElem?_eq_getElem h1)
    have le : es[2 * e]'(by omega) ≤ es[2 * e + 1]'h1 := List.pairwise_iff_getElem.mp so (2 * e) (2 * e + 1) (by omega) h1 (by omega)
    generalize es[2 * e]'(by omega) = a at *
    generalize es[2 * e + 1]'h1 = b at *
    refine ⟨.inl ⟨by decide, by decide⟩, ?_⟩
    refine ix_lk (k := 2 * e) (by omega) g0 ?_
    refine ⟨.inl ⟨by decide, by decide⟩, ?_⟩
    refine ix_lk (k := 2 * e + 1) (by omega) g1 ?_
    refine ⟨.inl ⟨by decide, by decide⟩, ?_⟩
    refine ix_lk (k := 2 * e) (by omega) g0 ?_
    refine ⟨by show 2 ≤ sizeLine; decide, by rw [List.length_map, List.length_take]; omega, rfl, ?_⟩
    rw [map_next pg]
    show _ = _ ++ [D.tup [.int (a : Int), .int ((b - a : Nat) : Int)]]
    rw [Int.ofNat_sub le]
  · obtain ⟨rfl, rfl⟩ := hp
    rw [rg_len]
    have tl : (pcsR es).take (((kd es).length : Int) / 2).toNat = pcsR es := List.take_of_length_le (by rw [pcs_len]; omega)
    rw [tl]
    exact q (pcsR es) (by rw [pcs_len]; omega) (pcs_up so hW fun _ _ => Nat.zero_le _)
end
end L56
set_option maxHeartbeats 2000000
namespace HG
open PySem PySem.Spec PyProof.Rows L2
theorem sh_lst {k n : Nat} {ds : List PyData} (h : ∀ d ∈ ds, Sh k n d) : Sh (k + 1) (n * ds.length + 2 * ds.length + 3) (.list ds) := by
  obtain ⟨a1, a2, a3, a4, a5⟩ := sh_all h
  refine ⟨by simp only [PyData.showable, a1], by simp only [PyData.hasDict, a2], by simp only [PyData.depth]; omega, ?_⟩
  simp only [PyData.shown]
  have l := listText_len_le (PyData.shownAll ds)
  rw [a5] at l
  omega
theorem sh_str {z : Str} (h : ∀ c ∈ z.cps.toList, c < 16 ^ 8) : Sh 0 (10 * z.length + 2) (.str z) :=
  ⟨by simp only [PyData.showable], by simp only [PyData.hasDict], by simp only [PyData.depth]; omega, by simp only [PyData.shown]; exact PySem.StrLaws.reprText_len z h⟩
end HG
namespace PU
open PySem PySem.Spec PyProof.Rows L2 HG
/-- data whose text is short -/
def ShD (k n : Nat) (d : D) : Prop := ∃ p, d.py = some p ∧ Sh k n p
theorem ShD.more {k n k' n' : Nat} {d : D} (h : ShD k n d) (hk : k ≤ k') (hn : n ≤ n') : ShD k' n' d := by
  obtain ⟨p, e, s⟩ := h
  exact ⟨p, e, s.more hk hn⟩
theorem shd_int {a : Int} (h : a.natAbs < 2 ^ 100) : ShD 0 102 (.int a) := ⟨_, rfl, sh_int h⟩
theorem shd_nat {a : Nat} (h : a < 1000000) : ShD 0 102 (.int (a : Int)) := by
  refine shd_int ?_
  have : (1000000 : Nat) < 2 ^ 100 := by decide
  omega
theorem shd_non : ShD 0 102 .non := ⟨_, rfl, ⟨by simp only [PyData.showable], by simp only [PyData.hasDict], by simp only [PyData.depth]; omega, by simp only [PyData.shown]; decide +kernel⟩⟩
theorem signs_low : ∀ c ∈ signs.cps.toList, c < 16 ^ 8 := by decide +kernel
theorem shd_let {z : Str} (h : letS z = true) : ShD 0 122 (.str z) := by
  obtain ⟨_, h2, h3⟩ := letS_to h
  exact ⟨_, rfl, (sh_str fun c m => signs_low c (h3 c m)).more (Nat.le_refl _) (by omega)⟩
theorem shd_all {k n : Nat} : ∀ {xs : List D}, (∀ x ∈ xs, ShD k n x) → ∃ ps, pyA xs = some ps ∧ ps.length = xs.length ∧ ∀ p ∈ ps, Sh k n p
  | [], _ => ⟨[], rfl, rfl, fun _ m => nomatch m⟩
  | x :: r, h => by
    obtain ⟨p, e, s⟩ := h x List.mem_cons_self
    obtain ⟨ps, e2, l, s2⟩ := shd_all fun y m => h y (List.mem_cons_of_mem _ m)
    refine ⟨p :: ps, ?_, by rw [List.length_cons, List.length_cons, l], fun q m => ?_⟩
    · simp only [pyA, e, e2]
    · rcases List.mem_cons.mp m with rfl | m
      · exact s
      · exact s2 q m
theorem shd_tup {k n : Nat} {xs : List D} (h : ∀ x ∈ xs, ShD k n x) : ShD (k + 1) (n * xs.length + 2 * xs.length + 3) (.tup xs) := by
  obtain ⟨ps, e, l, s⟩ := shd_all h
  refine ⟨.tuple ps, by simp only [D.py, e, Option.map], ?_⟩
  rw [← l]
  exact sh_tup s
theorem shd_lst {k n : Nat} {xs : List D} (h : ∀ x ∈ xs, ShD k n x) : ShD (k + 1) (n * xs.length + 2 * xs.length + 3) (.lst xs) := by
  obtain ⟨ps, e, l, s⟩ := shd_all h
  refine ⟨.list ps, by simp only [D.py, e, Option.map], ?_⟩
  rw [← l]
  exact sh_lst s
theorem isLet_str {d : D} (h : isLet d = true) : ∃ z, d = .str z ∧ letS z = true := by
  cases d with
  | str z => exact ⟨z, rfl, h⟩
  | _ => cases h
theorem shd_word {V : List D} {n : Nat} (h : V.all isLet = true) (l : V.length ≤ n) : ShD 1 (124 * n + 3) (.tup V) := by
  refine (shd_tup (k := 0) (n := 122) fun x m => ?_).more (Nat.le_refl _) (by omega)
  obtain ⟨z, rfl, hz⟩ := isLet_str (List.all_eq_true.mp h x m)
  exact shd_let hz
theorem shd_it {b : L56.Br} {n : Nat} (h : b.2.all isLet = true) (l : b.2.length ≤ n) (l1 : b.1 < 1000000) : ShD 2 (2 * (124 * n + 105) + 7) (L56.itD b) := by
  refine (shd_tup (k := 1) (n := 124 * n + 105) fun x m => ?_).more (Nat.le_refl _) (by simp only [List.length_cons, List.length_nil]; omega)
  simp only [List.mem_cons, List.not_mem_nil, or_false] at m
  rcases m with rfl | rfl
  · exact (shd_nat l1).more (by omega) (by omega)
  · exact (shd_word h l).more (by omega) (by omega)
/-- texts of the same data are the same -/
theorem repr_same {d : D} {k n : Nat} {Q : D → Prop} (h : ShD k n d) (hk : k ≤ 64) (hn : n ≤ sizeLine) (q : ∀ z, Q (.str z)) : rReprD [d] Q := by
  obtain ⟨p, e, s⟩ := h
  exact ⟨p, k, n, e, s, hk, hn, q _⟩
end PU
set_option maxHeartbeats 2000000
namespace L56
open PySem PySem.Spec PyProof.Rows L2 HG PU LamX
theorem all_map_lets {W : List Str} (h : ∀ z ∈ W, letS z = true) : (W.map D.str).all isLet = true := all_lets h
theorem fine_lets {V : List D} (h : V.all isLet = true) (l : V.length < 1000) : fine (.tup V) = true := fine_tup' l fun d m => by
  obtain ⟨z, rfl, hz⟩ := isLet_str (List.all_eq_true.mp h d m)
  have := (letS_to hz).2.1
  simp only [fine]
  exact decide_eq_true (by omega)
theorem fine_two {x y : D} (hx : fine x = true) (hy : fine y = true) : fine (.tup [x, y]) = true := fine_tup' (by simp) fun d m => by
  simp only [List.mem_cons, List.not_mem_nil, or_false] at m
  rcases m with rfl | rfl
  · exact hx
  · exact hy
theorem fine_itD {b : Br} (h : b.2.all isLet = true) (l : b.2.length < 1000) : fine (itD b) = true := fine_two rfl (fine_lets h l)
theorem fine_piD {p : Pi2} : fine (piD p) = true := fine_two rfl rfl
theorem fine_row {d : D} {xs : List D} (e : d = .lst xs ∨ d = .tup xs) (l : xs.length < 1000) (h : ∀ x ∈ xs, fine x = true) : fine d = true := by
  rcases e with rfl | rfl
  · exact fine_lst' l h
  · exact fine_tup' l h
theorem row_of {d : D} {xs : List D} (e : d = .lst xs ∨ d = .tup xs) : rowOf d = some xs := by
  rcases e with rfl | rfl <;> rfl
theorem putRes_ok {B CB : Addr} {W : List D} {bs : List Br} {d : D} (hW : W.all isLet = true) (e : d = .lst (bs.map itD) ∨ d = .tup (bs.map itD)) (up : Up W.length 0 bs) (g : ∀ b ∈ bs, b.2.all isLet = true) :
    putRes B CB (.tup W) d = .ok (.tup (lawPut W bs)) := by
  have w : isWord (.tup W) = true := hW
  unfold putRes
  rw [if_pos w, row_of e]
  show putK CB (putD W [] 0 0 (bs.map itD)) = _
  rw [putD_of up g, put_law up]
  rfl
theorem takeRes_ok {B CP : Addr} {W : List D} {ps : List Pi2} {d : D} (hW : W.all isLet = true) (e : d = .lst (ps.map piD) ∨ d = .tup (ps.map piD)) (up : Up2 W.length 0 ps) :
    takeRes B CP (.tup W) d = .ok (.tup [.tup (leftW W ps), .lst ((leftBrs W ps).map itD)]) := by
  have w : isWord (.tup W) = true := hW
  unfold takeRes
  rw [if_pos w, row_of e]
  show takeK CP (takeD W [] (([] : List Br).map itD) 0 0 (ps.map piD)) = _
  rw [takeD_of up, take_law up]
  rfl
theorem put_all_let {W : List D} (hW : W.all isLet = true) : ∀ {brs : List Br} {told : List D} {a : Nat}, told.all isLet = true → (∀ b ∈ brs, b.2.all isLet = true) → (putPure W told a brs).all isLet = true
  | [], told, a, h, _ => by
    show (told ++ W.drop a).all isLet = true
    rw [List.all_append, h, Bool.true_and, List.all_eq_true]
    exact fun x m => List.all_eq_true.mp hW x (List.mem_of_mem_drop m)
  | (n, U) :: r, told, a, h, g => by
    refine put_all_let hW (brs := r) ?_ fun b m => g b (List.mem_cons_of_mem _ m)
    rw [List.all_append, h, Bool.true_and, List.all_append, g (n, U) List.mem_cons_self, Bool.and_true, List.all_eq_true]
    exact fun x m => List.all_eq_true.mp hW x (List.mem_of_mem_drop (List.mem_of_mem_take m))
theorem put_len {W : List D} : ∀ {brs : List Br} {told : List D} {a : Nat}, a ≤ W.length → Up W.length a brs → (∀ b ∈ brs, b.2.length ≤ 100) → (putPure W told a brs).length ≤ told.length + (W.length - a) + 100 * brs.length
  | [], told, a, _, _, _ => by
    show (told ++ W.drop a).length ≤ _
    rw [List.length_append, List.length_drop]
    omega
  | (n, U) :: r, told, a, la, h, g => by
    obtain ⟨h1, h2, h3⟩ := h
    have := put_len (W := W) (brs := r) (told := told ++ ((W.drop a).take (n - a) ++ U)) h2 h3 fun b m => g b (List.mem_cons_of_mem _ m)
    have gU : U.length ≤ 100 := g (n, U) List.mem_cons_self
    rw [List.length_append, List.length_append, List.length_take, List.length_drop] at this
    show (putPure W (told ++ ((W.drop a).take (n - a) ++ U)) n r).length ≤ _
    rw [List.length_cons]
    omega
theorem shd_put {W : List D} {bs : List Br} (hW : W.all isLet = true) (lW : W.length ≤ 100) (up : Up W.length 0 bs) (lb : bs.length ≤ 100) (g : ∀ b ∈ bs, b.2.length ≤ 100 ∧ b.2.all isLet = true) : ShD 1 1300000 (.tup (lawPut W bs)) := by
  rw [← put_law up]
  have l := put_len (W := W) (told := []) (Nat.zero_le _) up fun b m => (g b m).1
  refine (shd_word (n := 10200) (put_all_let hW rfl fun b m => (g b m).2) ?_).more (Nat.le_refl _) (by omega)
  rw [List.length_nil] at l
  omega
theorem left_all {W : List D} {ps : List Pi2} (hW : W.all isLet = true) : (leftW W ps).all isLet = true ∧ (leftW W ps).length ≤ W.length := by
  unfold leftW
  refine ⟨List.all_eq_true.mpr fun x m => ?_, ?_⟩
  · obtain ⟨a, _, e⟩ := List.mem_filterMap.mp m
    exact List.all_eq_true.mp hW x (List.mem_of_getElem? e)
  · exact Nat.le_trans (List.length_filterMap_le _ _) (kf_len (n := W.length) (ps := ps))
theorem brs_all {W : List D} {ps : List Pi2} (hW : W.all isLet = true) : ∀ b ∈ leftBrs W ps, b.1 ≤ W.length ∧ b.2.length ≤ W.length ∧ b.2.all isLet = true := fun b m => by
  obtain ⟨p, _, rfl⟩ := List.mem_map.mp m
  unfold leftBr
  refine ⟨Nat.le_trans (List.length_filter_le _ _) (kf_len (n := W.length) (ps := ps)), ?_, List.all_eq_true.mpr fun x m => ?_⟩
  · show ((W.drop p.1).take p.2).length ≤ _
    rw [List.length_take, List.length_drop]
    omega
  · exact List.all_eq_true.mp hW x (List.mem_of_mem_drop (List.mem_of_mem_take m))
theorem shd_take {W : List D} {ps : List Pi2} (hW : W.all isLet = true) (lW : W.length ≤ 100) (lp : ps.length ≤ 100) : ShD 4 5100000 (.tup [.tup (leftW W ps), .lst ((leftBrs W ps).map itD)]) := by
  obtain ⟨a1, a2⟩ := left_all (ps := ps) hW
  refine (shd_tup (k := 3) (n := 2501903) fun x m => ?_).more (Nat.le_refl _) (by simp only [List.length_cons, List.length_nil]; omega)
  simp only [List.mem_cons, List.not_mem_nil, or_false] at m
  rcases m with rfl | rfl
  · exact (shd_word (n := 100) a1 (by omega)).more (by omega) (by omega)
  · refine (shd_lst (k := 2) (n := 25017) fun x m => ?_).more (Nat.le_refl _) (by rw [List.length_map]; unfold leftBrs; rw [List.length_map]; omega)
    obtain ⟨b, hb, rfl⟩ := List.mem_map.mp m
    obtain ⟨b1, b2, b3⟩ := brs_all (ps := ps) hW b hb
    exact (shd_it (n := 100) b3 (by omega) (by omega)).more (Nat.le_refl _) (by omega)
end L56
set_option maxHeartbeats 2000000
namespace L56
open PySem PySem.Spec PyProof.Rows L2 HG PU LamX
section
variable {P : Program} {w : World} {K : PySem.W.Frag} {mg : Str → Option Value} {base : Heap} {CE B CB CP cc Pt : Addr} {T : List (Addr × Str)} (h : LawX P w K mg base CE B CB CP cc Pt T) {f : Addr} {A : Around} {outer : List Env} {s : Shared} {H : Hp} {E : XK} (ng : NoG (AL f cc A s)) (hr : Room 10 (AL f cc A s)) (hu66 : (AL f cc A s).units + 66 < cLine) {i : Addr × Addr × Addr}
theorem rd_6 {Ed : EndD} {n : Nat} {sc : D} {y2 y3 y5 y6 y8 y9 y11 y12 y13 y14 y15 y16 y17 y18 y19 sb : S} {W : List Str} {bs : List Br} (hW : ∀ z ∈ W, letS z = true) (lW : W.length ≤ 8) (up : Up W.length 0 bs) (lb : bs.length ≤ 4) (g : ∀ b ∈ bs, b.2.length ≤ 3 ∧ b.2.all isLet = true)
    (q : Ed.nx [.d sc, .d (.ref i.1), y2, y3, .d (.tup (W.map .str)), y5, y6, .d (.lst (bs.map itD)), y8, y9, sb, .d (.tup (lawPut (W.map .str) bs)), y12, y13, y14, y15, y16, y17, y18, y19] n) :
    (st_6 h (outer := outer) (H := H) (E := E) ng hr hu66 i).1 Ed [.d sc, .d (.ref i.1), y2, y3, .d (.tup (W.map .str)), y5, y6, .d (.lst (bs.map itD)), y8, y9, sb, y11, y12, y13, y14, y15, y16, y17, y18, y19] n := by
  have sz : sizeLine = 16777216 := sizeLine_eq
  unfold st_6
  dsimp only
  have w1 := all_lets hW
  have l1 : (W.map D.str).length = W.length := List.length_map ..
  have up' : Up (W.map D.str).length 0 bs := by rw [l1]; exact up
  have f1 : fine (.tup (W.map D.str)) = true := fine_lets w1 (by omega)
  have f2 : ∀ {d : D}, d = .lst (bs.map itD) ∨ d = .tup (bs.map itD) → fine d = true := fun e => fine_row e (by rw [List.length_map]; omega) fun x m => by
    obtain ⟨b, hb, rfl⟩ := List.mem_map.mp m
    exact fine_itD (g b hb).2 (by have := (g b hb).1; omega)
  have g3 : ∀ b ∈ bs, b.2.all isLet = true := fun b m => (g b m).2
  
  refine ⟨(W.map .str, _, bs), rfl, ⟨.inl rfl, by show (W.map D.str).length ≤ 100; omega, by show bs.length ≤ 100; omega, fun b m => by have := (g b m).1; omega⟩, q⟩
theorem rd_7 {Ed : EndD} {n : Nat} {sc : D} {y2 y3 y5 y6 y8 y9 y12 y13 y14 y15 y16 y17 y18 y19 sb : S} {W : List Str} {bs : List Br} (hW : ∀ z ∈ W, letS z = true) (lW : W.length ≤ 8) (up : Up W.length 0 bs) (lb : bs.length ≤ 4) (g : ∀ b ∈ bs, b.2.length ≤ 3 ∧ b.2.all isLet = true)
    (q : Ed.nx [.d sc, .d (.ref i.1), y2, y3, .d (.tup (W.map .str)), y5, y6, .d (.lst (bs.map itD)), y8, y9, sb, .d (.tup (lawPut (W.map .str) bs)), y12, y13, y14, y15, y16, y17, y18, y19] n) :
    (st_7 h (outer := outer) (H := H) (E := E) ng hr hu66 i).1 Ed [.d sc, .d (.ref i.1), y2, y3, .d (.tup (W.map .str)), y5, y6, .d (.lst (bs.map itD)), y8, y9, sb, .d (.tup (lawPut (W.map .str) bs)), y12, y13, y14, y15, y16, y17, y18, y19] n := by
  have sz : sizeLine = 16777216 := sizeLine_eq
  unfold st_7
  dsimp only
  have w1 := all_lets hW
  have l1 : (W.map D.str).length = W.length := List.length_map ..
  have up' : Up (W.map D.str).length 0 bs := by rw [l1]; exact up
  have f1 : fine (.tup (W.map D.str)) = true := fine_lets w1 (by omega)
  have f2 : ∀ {d : D}, d = .lst (bs.map itD) ∨ d = .tup (bs.map itD) → fine d = true := fun e => fine_row e (by rw [List.length_map]; omega) fun x m => by
    obtain ⟨b, hb, rfl⟩ := List.mem_map.mp m
    exact fine_itD (g b hb).2 (by have := (g b hb).1; omega)
  have g3 : ∀ b ∈ bs, b.2.all isLet = true := fun b m => (g b m).2
  
  have SH := shd_put w1 (by omega) up' (by omega) fun b m => ⟨by have := (g b m).1; omega, g3 b m⟩
  have S2 : ShD 2 3000000 (.lst [.tup (lawPut (W.map .str) bs), .tup (lawPut (W.map .str) bs)]) := (shd_lst (k := 1) (n := 1300000) fun x m => by
    simp only [List.mem_cons, List.not_mem_nil, or_false] at m
    rcases m with rfl | rfl <;> exact SH).more (Nat.le_refl _) (by simp only [List.length_cons, List.length_nil]; omega)
  refine ⟨(.tup (W.map .str), .lst (bs.map itD)), rfl, ⟨f1, f2 (.inl rfl)⟩, ?_⟩
  dsimp only
  rw [putRes_ok w1 (.inl rfl) up' g3]
  refine ⟨(.tup (W.map .str), .tup (bs.map itD)), rfl, ⟨f1, f2 (.inr rfl)⟩, ?_⟩
  dsimp only
  rw [putRes_ok w1 (.inr rfl) up' g3]
  obtain ⟨p, hp, sh⟩ := S2
  refine ⟨by show 2 ≤ sizeLine; decide, p, 2, 3000000, hp, sh, by omega, by omega, ?_⟩
  refine ⟨by show 2 ≤ sizeLine; decide, p, 2, 3000000, hp, sh, by omega, by omega, ?_⟩
  exact ite_b (fun e => absurd e (by simp)) fun _ => q
theorem rd_8 {Ed : EndD} {n : Nat} {sc : D} {y2 y3 y5 y6 y8 y9 y11 y12 y13 y14 y15 y16 y17 y18 y19 sb : S} {W : List Str} {ps : List Pi2} (hW : ∀ z ∈ W, letS z = true) (lW : W.length ≤ 8) (up : Up2 W.length 0 ps) (lp : ps.length ≤ 3)
    (q : Ed.nx [.d sc, .d (.ref i.1), y2, y3, .d (.tup (W.map .str)), y5, y6, sb, y8, y9, .d (.lst (ps.map piD)), .d (.tup [.tup (leftW (W.map .str) ps), .lst ((leftBrs (W.map .str) ps).map itD)]), y12, y13, y14, y15, y16, y17, y18, y19] n) :
    (st_8 h (outer := outer) (H := H) (E := E) ng hr hu66 i).1 Ed [.d sc, .d (.ref i.1), y2, y3, .d (.tup (W.map .str)), y5, y6, sb, y8, y9, .d (.lst (ps.map piD)), y11, y12, y13, y14, y15, y16, y17, y18, y19] n := by
  have sz : sizeLine = 16777216 := sizeLine_eq
  unfold st_8
  dsimp only
  have w1 := all_lets hW
  have l1 : (W.map D.str).length = W.length := List.length_map ..
  have up' : Up2 (W.map D.str).length 0 ps := by rw [l1]; exact up
  have f1 : fine (.tup (W.map D.str)) = true := fine_lets w1 (by omega)
  have f2 : ∀ {d : D}, d = .lst (ps.map piD) ∨ d = .tup (ps.map piD) → fine d = true := fun e => fine_row e (by rw [List.length_map]; omega) fun x m => by
    obtain ⟨b, hb, rfl⟩ := List.mem_map.mp m
    exact fine_piD
  
  refine ⟨(W.map .str, _, ps), rfl, ⟨.inl rfl, by show (W.map D.str).length ≤ 100; omega, by show ps.length ≤ 100; omega, fun p m => by show p.1 + p.2 ≤ (W.map D.str).length; exact up'.inn p m⟩, q⟩
end
end L56
set_option maxHeartbeats 2000000
namespace L56
open PySem PySem.Spec PyProof.Rows L2 HG PU LamX
@[irreducible] def st_i0 {P : Program} {w : World} {K : PySem.W.Frag} {mg : Str → Option Value} {base : Heap} {CE B CB CP cc Pt : Addr} {T : List (Addr × Str)} (h : LawX P w K mg base CE B CB CP cc Pt T) {f : Addr} {A : Around} {outer : List Env} {s : Shared} {H : Hp} {E : XK} (ng : NoG (AL f cc A s)) (hr : Room 10 (AL f cc A s)) (hu66 : (AL f cc A s).units + 66 < cLine) (i : Addr × Addr × Addr) :
    {wd : TDs // ∀ F0 H0, (cnOf (gLaw T i) F0 H0).Ok → US (XL P w K mg base f cc A outer s H E) (cnOf (gLaw T i) F0 H0) (bodyI.getD 0 (.Pass ⟨0, 0, 0, 0⟩)) wd} := by
  have nd : NL.Nodup := sc_law.nd
  have Lm : ∀ {scope : Scope}, lamSB (defScope s_law) scope = true → LamS (defScope s_law) scope := fun h => lamS_by h
  have hu := hr.units
  exact ⟨_, fun F0 H0 hC => have em : Emb (gDraw i) (cnOf (gLaw T i) F0 H0).toGh := emb_law; (us_set (i := 15) (uc_e i em hC h.c__law_bent hr pass0 (ua_cons (ue_var (i := 1)) (ua_cons (ue_var (i := 4)) (ua_cons (ue_var (i := 7)) (ua_cons ue_bl ua_nil))))) nd)⟩
@[irreducible] def st_i1 {P : Program} {w : World} {K : PySem.W.Frag} {mg : Str → Option Value} {base : Heap} {CE B CB CP cc Pt : Addr} {T : List (Addr × Str)} (h : LawX P w K mg base CE B CB CP cc Pt T) {f : Addr} {A : Around} {outer : List Env} {s : Shared} {H : Hp} {E : XK} (ng : NoG (AL f cc A s)) (hr : Room 10 (AL f cc A s)) (hu66 : (AL f cc A s).units + 66 < cLine) (i : Addr × Addr × Addr) :
    {wd : TDs // ∀ F0 H0, (cnOf (gLaw T i) F0 H0).Ok → US (XL P w K mg base f cc A outer s H E) (cnOf (gLaw T i) F0 H0) (bodyI.getD 1 (.Pass ⟨0, 0, 0, 0⟩)) wd} := by
  have nd : NL.Nodup := sc_law.nd
  have Lm : ∀ {scope : Scope}, lamSB (defScope s_law) scope = true → LamS (defScope s_law) scope := fun h => lamS_by h
  have hu := hr.units
  exact ⟨_, fun F0 H0 hC => have em : Emb (gDraw i) (cnOf (gLaw T i) F0 H0).toGh := emb_law; (us_set (i := 16) (uc_p h.c__law_first hr pass0 (ua_cons (ue_var (i := 4)) (ua_cons (ue_var (i := 15)) (ua_cons ue_bl ua_nil)))) nd)⟩
@[irreducible] def st_i2 {P : Program} {w : World} {K : PySem.W.Frag} {mg : Str → Option Value} {base : Heap} {CE B CB CP cc Pt : Addr} {T : List (Addr × Str)} (h : LawX P w K mg base CE B CB CP cc Pt T) {f : Addr} {A : Around} {outer : List Env} {s : Shared} {H : Hp} {E : XK} (ng : NoG (AL f cc A s)) (hr : Room 10 (AL f cc A s)) (hu66 : (AL f cc A s).units + 66 < cLine) (i : Addr × Addr × Addr) :
    {wd : TDs // ∀ F0 H0, (cnOf (gLaw T i) F0 H0).Ok → US (XL P w K mg base f cc A outer s H E) (cnOf (gLaw T i) F0 H0) (bodyI.getD 2 (.Pass ⟨0, 0, 0, 0⟩)) wd} := by
  have nd : NL.Nodup := sc_law.nd
  have Lm : ∀ {scope : Scope}, lamSB (defScope s_law) scope = true → LamS (defScope s_law) scope := fun h => lamS_by h
  have hu := hr.units
  exact ⟨_, fun F0 H0 hC => have em : Emb (gDraw i) (cnOf (gLaw T i) F0 H0).toGh := emb_law; (us_set (i := 17) (ue_ifExp (ut_cmp (opd_eqA hu) (ue_var (i := 16)) (ue_neg ue_int)) (ue_tup (ua_cons ue_str (ua_cons (uc_p h.c__law_put hr pass0 (ua_cons (ue_var (i := 4)) (ua_cons (ue_var (i := 15)) ua_nil))) ua_nil))) (ue_tup (ua_cons ue_str (ua_cons (ue_callB (cd_repr ng hu66) h.z_repr (ua_cons (ue_var (i := 16)) ua_nil)) ua_nil)))) nd)⟩
@[irreducible] def st_i3 {P : Program} {w : World} {K : PySem.W.Frag} {mg : Str → Option Value} {base : Heap} {CE B CB CP cc Pt : Addr} {T : List (Addr × Str)} (h : LawX P w K mg base CE B CB CP cc Pt T) {f : Addr} {A : Around} {outer : List Env} {s : Shared} {H : Hp} {E : XK} (ng : NoG (AL f cc A s)) (hr : Room 10 (AL f cc A s)) (hu66 : (AL f cc A s).units + 66 < cLine) (i : Addr × Addr × Addr) :
    {wd : TDs // ∀ F0 H0, (cnOf (gLaw T i) F0 H0).Ok → US (XL P w K mg base f cc A outer s H E) (cnOf (gLaw T i) F0 H0) (bodyI.getD 3 (.Pass ⟨0, 0, 0, 0⟩)) wd} := by
  have nd : NL.Nodup := sc_law.nd
  have Lm : ∀ {scope : Scope}, lamSB (defScope s_law) scope = true → LamS (defScope s_law) scope := fun h => lamS_by h
  have hu := hr.units
  exact ⟨_, fun F0 H0 hC => have em : Emb (gDraw i) (cnOf (gLaw T i) F0 H0).toGh := emb_law; (us_if (ut_cmp (opd_neA hu) (ue_callB (cd_repr ng hu66) h.z_repr (ua_cons (ue_told (k := 8) hC gLaw_lam h.G h.z_isinstance h.z_repr ng h.TB rfl h.hm h.hu_ hr (fun _ => mo_cpx (h.c_put_in.mo ()) (mo_Cons mo_Var (mo_Cons mo_Var mo_Nil))) (fun _ _ _ _ _ j w => mx_cpx (h.c_put_in.mo ()) (mo_Cons mo_Var (mo_Cons mo_Var mo_Nil)) j w) (fun A outer s H Ev f c2 F0 H0 Ed hr2 ok2 xo => uc_pX xo h.c_put_in hr2 passL2 (ua_cons (ue_var (i := 4)) (ua_cons (ue_var (i := 15)) ua_nil))) rfl (Lm (by decide +kernel))) ua_nil)) (ue_callB (cd_repr ng hu66) h.z_repr (ua_cons (ue_var (i := 17)) ua_nil))) (us_one (us_ret ue_bl)) us_nil)⟩
end L56
set_option maxHeartbeats 2000000
namespace L56
open PySem PySem.Spec PyProof.Rows L2 HG PU LamX
@[irreducible] def st_13 {P : Program} {w : World} {K : PySem.W.Frag} {mg : Str → Option Value} {base : Heap} {CE B CB CP cc Pt : Addr} {T : List (Addr × Str)} (h : LawX P w K mg base CE B CB CP cc Pt T) {f : Addr} {A : Around} {outer : List Env} {s : Shared} {H : Hp} {E : XK} (ng : NoG (AL f cc A s)) (hr : Room 10 (AL f cc A s)) (hu66 : (AL f cc A s).units + 66 < cLine) (i : Addr × Addr × Addr) :
    {wd : TDs // ∀ F0 H0, (cnOf (gLaw T i) F0 H0).Ok → US (XL P w K mg base f cc A outer s H E) (cnOf (gLaw T i) F0 H0) (bodyL.getD 13 (.Pass ⟨0, 0, 0, 0⟩)) wd} := by
  have nd : NL.Nodup := sc_law.nd
  have Lm : ∀ {scope : Scope}, lamSB (defScope s_law) scope = true → LamS (defScope s_law) scope := fun h => lamS_by h
  have hu := hr.units
  exact ⟨_, fun F0 H0 hC => have em : Emb (gDraw i) (cnOf (gLaw T i) F0 H0).toGh := emb_law; (us_if (ut_cmp (opd_neA hu) (ue_callB (cd_repr ng hu66) h.z_repr (ua_cons (uc_k h.c_taken_out h.d_taken_out kw_taken_out hr passL (uk_cons (ue_callTy cd_tuple h.z_tuple (ua_cons (ue_var (i := 10)) ua_nil)) (uk_cons (ue_var (i := 4)) uk_nil))) ua_nil)) (ue_callB (cd_repr ng hu66) h.z_repr (ua_cons (ue_var (i := 11)) ua_nil))) (us_one (us_ret ue_bl)) us_nil)⟩
@[irreducible] def st_15 {P : Program} {w : World} {K : PySem.W.Frag} {mg : Str → Option Value} {base : Heap} {CE B CB CP cc Pt : Addr} {T : List (Addr × Str)} (h : LawX P w K mg base CE B CB CP cc Pt T) {f : Addr} {A : Around} {outer : List Env} {s : Shared} {H : Hp} {E : XK} (ng : NoG (AL f cc A s)) (hr : Room 10 (AL f cc A s)) (hu66 : (AL f cc A s).units + 66 < cLine) (i : Addr × Addr × Addr) :
    {wd : TDs // ∀ F0 H0, (cnOf (gLaw T i) F0 H0).Ok → US (XL P w K mg base f cc A outer s H E) (cnOf (gLaw T i) F0 H0) (bodyL.getD 15 (.Pass ⟨0, 0, 0, 0⟩)) wd} := by
  have nd : NL.Nodup := sc_law.nd
  have Lm : ∀ {scope : Scope}, lamSB (defScope s_law) scope = true → LamS (defScope s_law) scope := fun h => lamS_by h
  have hu := hr.units
  exact ⟨_, fun F0 H0 hC => have em : Emb (gDraw i) (cnOf (gLaw T i) F0 H0).toGh := emb_law; (us_set (i := 19) (uc_e i em hC h.c__law_pick hr pass0 (ua_cons (ue_var (i := 1)) (ua_cons (UL.ue (ul_lst (ua_cons (UL.ue (ul_callTy cl_list h.z_list (ua_cons (ue_var (i := 4)) ua_nil))) (ua_cons ue_non (ua_cons (ue_op opd_plus (ue_var (i := 4)) (ue_tup (ua_cons ue_str ua_nil))) (ua_cons (ue_op opd_plus (ue_var (i := 4)) (ue_tup (ua_cons ue_int ua_nil))) (ua_cons (ue_op opd_plus (ue_tup (ua_cons ue_str ua_nil)) (ue_var (i := 4))) (ua_cons ue_str (ua_cons (ue_tup (ua_cons ue_non ua_nil)) ua_nil))))))))) ua_nil))) nd)⟩
@[irreducible] def st_16 {P : Program} {w : World} {K : PySem.W.Frag} {mg : Str → Option Value} {base : Heap} {CE B CB CP cc Pt : Addr} {T : List (Addr × Str)} (h : LawX P w K mg base CE B CB CP cc Pt T) {f : Addr} {A : Around} {outer : List Env} {s : Shared} {H : Hp} {E : XK} (ng : NoG (AL f cc A s)) (hr : Room 10 (AL f cc A s)) (hu66 : (AL f cc A s).units + 66 < cLine) (i : Addr × Addr × Addr) :
    {wd : TDs // ∀ F0 H0, (cnOf (gLaw T i) F0 H0).Ok → US (XL P w K mg base f cc A outer s H E) (cnOf (gLaw T i) F0 H0) (bodyL.getD 16 (.Pass ⟨0, 0, 0, 0⟩)) wd} := by
  have nd : NL.Nodup := sc_law.nd
  have Lm : ∀ {scope : Scope}, lamSB (defScope s_law) scope = true → LamS (defScope s_law) scope := fun h => lamS_by h
  have hu := hr.units
  exact ⟨_, fun F0 H0 hC => have em : Emb (gDraw i) (cnOf (gLaw T i) F0 H0).toGh := emb_law; (us_if (ut_cmp (opd_neA hu) (ue_told (k := 8) hC gLaw_lam h.G h.z_isinstance h.z_repr ng h.TB rfl h.hm h.hu_ hr (fun _ => mo_cpx (h.c_put_in.mo ()) (mo_Cons mo_Var (mo_Cons mo_C mo_Nil))) (fun _ _ _ _ _ j w => mx_cpx (h.c_put_in.mo ()) (mo_Cons mo_Var (mo_Cons mo_C mo_Nil)) j w) (fun A outer s H Ev f c2 F0 H0 Ed hr2 ok2 xo => uc_pX xo h.c_put_in hr2 passL2 (ua_cons (ue_var (i := 19)) (ua_cons ue_non ua_nil))) rfl (Lm (by decide +kernel))) (ue_tup (ua_cons ue_str (ua_cons ue_str ua_nil)))) (us_one (us_ret ue_bl)) us_nil)⟩
@[irreducible] def st_17 {P : Program} {w : World} {K : PySem.W.Frag} {mg : Str → Option Value} {base : Heap} {CE B CB CP cc Pt : Addr} {T : List (Addr × Str)} (h : LawX P w K mg base CE B CB CP cc Pt T) {f : Addr} {A : Around} {outer : List Env} {s : Shared} {H : Hp} {E : XK} (ng : NoG (AL f cc A s)) (hr : Room 10 (AL f cc A s)) (hu66 : (AL f cc A s).units + 66 < cLine) (i : Addr × Addr × Addr) :
    {wd : TDs // ∀ F0 H0, (cnOf (gLaw T i) F0 H0).Ok → US (XL P w K mg base f cc A outer s H E) (cnOf (gLaw T i) F0 H0) (bodyL.getD 17 (.Pass ⟨0, 0, 0, 0⟩)) wd} := by
  have nd : NL.Nodup := sc_law.nd
  have Lm : ∀ {scope : Scope}, lamSB (defScope s_law) scope = true → LamS (defScope s_law) scope := fun h => lamS_by h
  have hu := hr.units
  exact ⟨_, fun F0 H0 hC => have em : Emb (gDraw i) (cnOf (gLaw T i) F0 H0).toGh := emb_law; (us_if (ut_cmp (opd_neA hu) (ue_told (k := 8) hC gLaw_lam h.G h.z_isinstance h.z_repr ng h.TB rfl h.hm h.hu_ hr (fun _ => mo_cpx (h.c_taken_out.mo ()) (mo_Cons mo_Var (mo_Cons mo_C mo_Nil))) (fun _ _ _ _ _ j w => mx_cpx (h.c_taken_out.mo ()) (mo_Cons mo_Var (mo_Cons mo_C mo_Nil)) j w) (fun A outer s H Ev f c2 F0 H0 Ed hr2 ok2 xo => uc_pX xo h.c_taken_out hr2 passL2 (ua_cons (ue_var (i := 19)) (ua_cons ue_int ua_nil))) rfl (Lm (by decide +kernel))) (ue_tup (ua_cons ue_str (ua_cons ue_str ua_nil)))) (us_one (us_ret ue_bl)) us_nil)⟩
end L56
set_option maxHeartbeats 2000000
namespace L56
open PySem PySem.Spec PyProof.Rows L2 HG PU LamX
@[irreducible] def st_t10 {P : Program} {w : World} {K : PySem.W.Frag} {mg : Str → Option Value} {base : Heap} {CE B CB CP cc Pt : Addr} {T : List (Addr × Str)} (h : LawX P w K mg base CE B CB CP cc Pt T) {f : Addr} {A : Around} {outer : List Env} {s : Shared} {H : Hp} {E : XK} (ng : NoG (AL f cc A s)) (hr : Room 10 (AL f cc A s)) (hu66 : (AL f cc A s).units + 66 < cLine) (i : Addr × Addr × Addr) :
    {wd : TDb // ∀ F0 H0, (cnOf (gLaw T i) F0 H0).Ok → UT (XL P w K mg base f cc A outer s H E) (cnOf (gLaw T i) F0 H0) (testOf (bodyL.getD 10 (.Pass ⟨0, 0, 0, 0⟩))) wd} := by
  have nd : NL.Nodup := sc_law.nd
  have Lm : ∀ {scope : Scope}, lamSB (defScope s_law) scope = true → LamS (defScope s_law) scope := fun h => lamS_by h
  have hu := hr.units
  exact ⟨_, fun F0 H0 hC => have em : Emb (gDraw i) (cnOf (gLaw T i) F0 H0).toGh := emb_law; (UW.ut (uw_or (ut_cmp (opd_neA hu) (ue_callB (cd_repr ng hu66) h.z_repr (ua_cons (ue_var (i := 12)) ua_nil)) (ue_callB (cd_repr ng hu66) h.z_repr (ua_cons (ue_var (i := 11)) ua_nil))) (uw_or1 (ut_cmp (opd_neA hu) (uc_p h.c_put_in hr passL (ua_cons (ue_ix (ue_var (i := 12)) ue_int) (ua_cons (ue_ix (ue_var (i := 12)) ue_int) ua_nil))) (ue_var (i := 4))))))⟩
theorem ps_9 {P : Program} {w : World} {K : PySem.W.Frag} {mg : Str → Option Value} {base : Heap} {CE B CB CP cc Pt : Addr} {T : List (Addr × Str)} (h : LawX P w K mg base CE B CB CP cc Pt T) {f : Addr} {A : Around} {outer : List Env} {s : Shared} {H : Hp} {E : XK} (ng : NoG (AL f cc A s)) (hr : Room 10 (AL f cc A s)) (hu66 : (AL f cc A s).units + 66 < cLine) :
    PS (XL P w K mg base f cc A outer s H E) (bodyL.getD 9 (.Pass ⟨0, 0, 0, 0⟩)) (tAsg (tCl (K56.sp_takenout K B CP) E0 (tCons (tVar 4) (tCons (tVar 10) tNil))) (gName 12)) := by
  have nd : NL.Nodup := sc_law.nd
  exact (ps_set (i := 12) nd rfl (.inl rfl) (pe_cE h.c_out hr passL (pa_cons (pv 4) (pa_cons (pv 10) pa_nil))))
theorem ps_11 {P : Program} {w : World} {K : PySem.W.Frag} {mg : Str → Option Value} {base : Heap} {CE B CB CP cc Pt : Addr} {T : List (Addr × Str)} (h : LawX P w K mg base CE B CB CP cc Pt T) {f : Addr} {A : Around} {outer : List Env} {s : Shared} {H : Hp} {E : XK} (ng : NoG (AL f cc A s)) (hr : Room 10 (AL f cc A s)) (hu66 : (AL f cc A s).units + 66 < cLine) :
    PS (XL P w K mg base f cc A outer s H E) (bodyL.getD 11 (.Pass ⟨0, 0, 0, 0⟩)) (tAsg (tOp (rIxT K) (tVar 12) (tC (.int 1))) (gName 13)) := by
  have nd : NL.Nodup := sc_law.nd
  exact (ps_set (i := 13) nd rfl (.inl rfl) (pe_ix ix_tup (pv 12) pe_int (fun _ _ => rfl)))
theorem ps_12 {P : Program} {w : World} {K : PySem.W.Frag} {mg : Str → Option Value} {base : Heap} {CE B CB CP cc Pt : Addr} {T : List (Addr × Str)} (h : LawX P w K mg base CE B CB CP cc Pt T) {f : Addr} {A : Around} {outer : List Env} {s : Shared} {H : Hp} {E : XK} (ng : NoG (AL f cc A s)) (hr : Room 10 (AL f cc A s)) (hu66 : (AL f cc A s).units + 66 < cLine) :
    PS (XL P w K mg base f cc A outer s H E) (bodyL.getD 12 (.Pass ⟨0, 0, 0, 0⟩)) (tDrop (tBM K "list" rAppend (tVar 13) (tCons (tTup (tCons (tC (.int 0)) (tCons (tVar 4) tNil))) tNil))) := by
  have nd : NL.Nodup := sc_law.nd
  exact (ps_expr (pe_bm PySem.F.plainAttrs_list PySem.F.slot_list_append PySem.F.type_list_append mt_append (pv 13) (pa_cons (pe_tup (pa_cons pe_int (pa_cons (pv 4) pa_nil))) pa_nil)))
end L56
set_option maxHeartbeats 2000000
namespace L56
open PySem PySem.Spec PyProof.Rows L2 HG PU LamX
def restOf (W : List D) : Nat → List Pi2 → List D
  | a, [] => W.drop a
  | a, (s, z) :: r => (W.drop a).take (s - a) ++ restOf W (s + z) r
def brsOf (W : List D) : Nat → Nat → List Pi2 → List Br
  | _, _, [] => []
  | k, a, (s, z) :: r => (k + (s - a), (W.drop s).take z) :: brsOf W (k + (s - a)) (s + z) r
theorem cut_len {W : List D} {a s : Nat} (h1 : a ≤ s) (h2 : s ≤ W.length) : ((W.drop a).take (s - a)).length = s - a := by
  rw [List.length_take, List.length_drop]
  omega
theorem take_parts {W : List D} : ∀ {ps : List Pi2} {rest : List D} {brs : List Br} {a : Nat}, Up2 W.length a ps → takePure W rest brs a ps = (rest ++ restOf W a ps, brs ++ brsOf W rest.length a ps)
  | [], rest, brs, a, _ => by
    show (rest ++ W.drop a, brs) = (rest ++ W.drop a, brs ++ [])
    rw [List.append_nil]
  | (s, z) :: r, rest, brs, a, h => by
    obtain ⟨h1, h2, h3⟩ := h
    have lc := cut_len (W := W) h1 (by omega)
    show takePure W (rest ++ (W.drop a).take (s - a)) (brs ++ [((rest ++ (W.drop a).take (s - a)).length, (W.drop s).take z)]) (s + z) r = _
    rw [take_parts h3, List.length_append, lc]
    show _ = (rest ++ ((W.drop a).take (s - a) ++ restOf W (s + z) r), brs ++ ((rest.length + (s - a), (W.drop s).take z) :: brsOf W (rest.length + (s - a)) (s + z) r))
    rw [List.append_assoc, List.append_assoc]
    rfl
theorem parts_up {W : List D} : ∀ {ps : List Pi2} {X : List D} {a : Nat}, Up2 W.length a ps → Up (X ++ restOf W a ps).length X.length (brsOf W X.length a ps)
  | [], _, _, _ => trivial
  | (s, z) :: r, X, a, h => by
    obtain ⟨h1, h2, h3⟩ := h
    have lc := cut_len (W := W) h1 (by omega)
    have ih := parts_up (X := X ++ (W.drop a).take (s - a)) h3
    rw [List.length_append (as := X), lc, List.append_assoc] at ih
    refine ⟨Nat.le_add_right _ _, ?_, ih⟩
    show X.length + (s - a) ≤ (X ++ ((W.drop a).take (s - a) ++ restOf W (s + z) r)).length
    rw [List.length_append, List.length_append, lc]
    omega
theorem parts_back {W : List D} : ∀ {ps : List Pi2} {X told : List D} {a : Nat}, Up2 W.length a ps → putPure (X ++ restOf W a ps) told X.length (brsOf W X.length a ps) = told ++ W.drop a
  | [], X, told, a, _ => by
    show told ++ (X ++ W.drop a).drop X.length = _
    rw [List.drop_left]
  | (s, z) :: r, X, told, a, h => by
    obtain ⟨h1, h2, h3⟩ := h
    have lc := cut_len (W := W) h1 (by omega)
    have ih := parts_back (X := X ++ (W.drop a).take (s - a)) (told := told ++ ((W.drop a).take (s - a) ++ (W.drop s).take z)) h3
    rw [List.length_append (as := X), lc, List.append_assoc] at ih
    show putPure (X ++ ((W.drop a).take (s - a) ++ restOf W (s + z) r)) (told ++ (((X ++ ((W.drop a).take (s - a) ++ restOf W (s + z) r)).drop X.length).take (X.length + (s - a) - X.length) ++ (W.drop s).take z)) (X.length + (s - a)) (brsOf W (X.length + (s - a)) (s + z) r) = _
    have e1 : ((X ++ ((W.drop a).take (s - a) ++ restOf W (s + z) r)).drop X.length).take (X.length + (s - a) - X.length) = (W.drop a).take (s - a) := by
      rw [List.drop_left, Nat.add_sub_cancel_left]
      exact List.take_left' lc
    rw [e1, ih]
    have e2 : (W.drop a).take (s - a) ++ ((W.drop s).take z ++ W.drop (s + z)) = W.drop a := by
      have q1 : (W.drop s).take z ++ W.drop (s + z) = W.drop s := by
        have := List.take_append_drop z (W.drop s)
        rwa [List.drop_drop] at this
      rw [q1]
      have := List.take_append_drop (s - a) (W.drop a)
      rwa [List.drop_drop, show a + (s - a) = s by omega] at this
    rw [List.append_assoc, List.append_assoc, e2]
theorem put_back {W : List D} {ps : List Pi2} (h : Up2 W.length 0 ps) : lawPut (leftW W ps) (leftBrs W ps) = W ∧ Up (leftW W ps).length 0 (leftBrs W ps) := by
  have e := (take_law h).symm.trans (take_parts (rest := []) (brs := []) h)
  have e1 : leftW W ps = [] ++ restOf W 0 ps := congrArg Prod.fst e
  have e2 : leftBrs W ps = [] ++ brsOf W ([] : List D).length 0 ps := congrArg Prod.snd e
  rw [List.nil_append] at e2
  have up : Up (leftW W ps).length 0 (leftBrs W ps) := by
    rw [e1, e2]
    exact parts_up (X := []) h
  refine ⟨?_, up⟩
  rw [← put_law up, e1, e2]
  exact parts_back (X := []) (told := []) h
end L56
set_option maxHeartbeats 2000000
namespace L56
open PySem PySem.Spec PyProof.Rows L2 HG PU LamX
theorem str_lay {z : Str} (h : ∀ c ∈ z.cps.toList, c < 0x110000) : PyData.canLay0 (.str z) = true := by
  show PyData.strOk z = true
  unfold PyData.strOk
  rw [Array.all_eq_true_iff_forall_mem]
  exact fun c m => decide_eq_true (h c (Array.mem_toList_iff.mpr m))
theorem signs_low' : ∀ c ∈ signs.cps.toList, c < 0x110000 := by decide +kernel
theorem word_lay : ∀ {V : List D}, V.all isLet = true → ∃ ps, pyA V = some ps ∧ PyData.canLayAll0 ps = true ∧ PyData.depthAll ps ≤ 1
  | [], _ => ⟨[], rfl, by simp only [PyData.canLayAll0], by simp [PyData.depthAll]⟩
  | d :: r, h => by
    rw [List.all_cons, Bool.and_eq_true] at h
    obtain ⟨z, rfl, hz⟩ := isLet_str h.1
    obtain ⟨ps, e, l, d⟩ := word_lay h.2
    refine ⟨.str z :: ps, by simp only [pyA, D.py, e], ?_, ?_⟩
    · have := str_lay fun c m => signs_low' c ((letS_to hz).2.2 c m)
      simp only [PyData.canLayAll0, this, l, Bool.and_self]
    · simp only [PyData.depthAll, PyData.depth]
      omega
theorem neA_word {V : List D} {Q : D → Prop} (h : V.all isLet = true) (q : Q (.bl false)) : rEqA not (.tup V) (.tup V) Q := by
  obtain ⟨ps, e, l, d⟩ := word_lay h
  have lay : PyData.canLay0 (.tuple ps) = true := by simp only [PyData.canLay0]; exact l
  have sh : SeqAt.shaped (.tuple ps) = true := by
    show (PyData.canLay0 _ && decide (PyData.depth _ ≤ 64)) = true
    rw [lay, Bool.true_and]
    refine decide_eq_true ?_
    simp only [PyData.depth]
    omega
  have py : (D.tup V).py = some (.tuple ps) := by simp only [D.py, e, Option.map]
  show PU.rEqD not (.tup V) (.tup V) Q
  unfold PU.rEqD
  rw [py]
  refine ⟨sh, sh, ?_⟩
  rw [PySem.SeqAt.eqv_refl _ lay]
  exact q
end L56
set_option maxHeartbeats 2000000
namespace L56
open PySem PySem.Spec PyProof.Rows L2 HG PU LamX
theorem var_d {i : Nat} {ρ : List S} {n : Nat} {d : D} {Q : D → Nat → Prop} (e : gt ρ i = .d d) (q : Q d n) : uVar i ρ n Q := by
  unfold uVar
  rw [e]
  exact q
theorem fro_cons (s : S) (r : List S) : fro (s :: r) = (match s with | .d x => S.d x | _ => S.u) :: fro r := by cases s <;> rfl
section
variable {P : Program} {w : World} {K : PySem.W.Frag} {mg : Str → Option Value} {base : Heap} {CE B CB CP cc Pt : Addr} {T : List (Addr × Str)} (h : LawX P w K mg base CE B CB CP cc Pt T) {f : Addr} {A : Around} {outer : List Env} {s : Shared} {H : Hp} {E : XK} (ng : NoG (AL f cc A s)) (hr : Room 10 (AL f cc A s)) (hu66 : (AL f cc A s).units + 66 < cLine) {i : Addr × Addr × Addr}
theorem rd_13 {Ed : EndD} {n : Nat} {sc : D} {y2 y3 y5 y6 y7 y8 y9 y12 y13 y14 y15 y16 y17 y18 y19 : S} {W : List Str} {ps : List Pi2} (hW : ∀ z ∈ W, letS z = true) (lW : W.length ≤ 8) (up : Up2 W.length 0 ps) (lp : ps.length ≤ 3)
    (q : Ed.nx [.d sc, .d (.ref i.1), y2, y3, .d (.tup (W.map .str)), y5, y6, y7, y8, y9, .d (.lst (ps.map piD)), .d (.tup [.tup (leftW (W.map .str) ps), .lst ((leftBrs (W.map .str) ps).map itD)]), y12, y13, y14, y15, y16, y17, y18, y19] n) :
    (st_13 h (outer := outer) (H := H) (E := E) ng hr hu66 i).1 Ed [.d sc, .d (.ref i.1), y2, y3, .d (.tup (W.map .str)), y5, y6, y7, y8, y9, .d (.lst (ps.map piD)), .d (.tup [.tup (leftW (W.map .str) ps), .lst ((leftBrs (W.map .str) ps).map itD)]), y12, y13, y14, y15, y16, y17, y18, y19] n := by
  have sz : sizeLine = 16777216 := sizeLine_eq
  unfold st_13
  dsimp only
  have w1 := all_lets hW
  have l1 : (W.map D.str).length = W.length := List.length_map ..
  have up' : Up2 (W.map D.str).length 0 ps := by rw [l1]; exact up
  have f1 : fine (.tup (W.map D.str)) = true := fine_lets w1 (by omega)
  have f2 : ∀ {d : D}, d = .lst (ps.map piD) ∨ d = .tup (ps.map piD) → fine d = true := fun e => fine_row e (by rw [List.length_map]; omega) fun x m => by
    obtain ⟨b, hb, rfl⟩ := List.mem_map.mp m
    exact fine_piD
  
  have S2 := shd_take w1 (by omega) (show ps.length ≤ 100 by omega)
  refine ⟨(.tup (W.map .str), .tup (ps.map piD)), rfl, ⟨f1, f2 (.inr rfl)⟩, ?_⟩
  dsimp only
  rw [takeRes_ok w1 (.inr rfl) up']
  obtain ⟨p, hp, sh⟩ := S2
  refine ⟨p, 4, 5100000, hp, sh, by omega, by omega, ?_⟩
  refine ⟨p, 4, 5100000, hp, sh, by omega, by omega, ?_⟩
  exact ite_b (fun e => absurd e (by simp)) fun _ => q
theorem rd_t10 {Q : Bool → Nat → Prop} {n : Nat} {sc : D} {y2 y3 y5 y6 y7 y8 y9 y13 y14 y15 y16 y17 y18 y19 : S} {W : List Str} {ps : List Pi2} (hW : ∀ z ∈ W, letS z = true) (lW : W.length ≤ 8) (up : Up2 W.length 0 ps) (lp : ps.length ≤ 3)
    (q : Q false n) :
    (st_t10 h (outer := outer) (H := H) (E := E) ng hr hu66 i).1 [.d sc, .d (.ref i.1), y2, y3, .d (.tup (W.map .str)), y5, y6, y7, y8, y9, .d (.lst (ps.map piD)), .d (.tup [.tup (leftW (W.map .str) ps), .lst ((leftBrs (W.map .str) ps).map itD)]), .d (.tup [.tup (leftW (W.map .str) ps), .lst ((leftBrs (W.map .str) ps).map itD)]), y13, y14, y15, y16, y17, y18, y19] n Q := by
  have sz : sizeLine = 16777216 := sizeLine_eq
  unfold st_t10
  dsimp only
  have w1 := all_lets hW
  have l1 : (W.map D.str).length = W.length := List.length_map ..
  have up' : Up2 (W.map D.str).length 0 ps := by rw [l1]; exact up
  have f1 : fine (.tup (W.map D.str)) = true := fine_lets w1 (by omega)
  have f2 : ∀ {d : D}, d = .lst (ps.map piD) ∨ d = .tup (ps.map piD) → fine d = true := fun e => fine_row e (by rw [List.length_map]; omega) fun x m => by
    obtain ⟨b, hb, rfl⟩ := List.mem_map.mp m
    exact fine_piD
  
  have S2 := shd_take w1 (by omega) (show ps.length ≤ 100 by omega)
  obtain ⟨p, hp, sh⟩ := S2
  obtain ⟨a1, a2⟩ := left_all (ps := ps) w1
  have b1 := brs_all (ps := ps) w1
  obtain ⟨pb, ub⟩ := put_back up'
  have lb : (leftBrs (W.map D.str) ps).length = ps.length := by unfold leftBrs; rw [List.length_map]
  refine ⟨p, 4, 5100000, hp, sh, by omega, by omega, ?_⟩
  refine ⟨p, 4, 5100000, hp, sh, by omega, by omega, ?_⟩
  refine ite_b (fun e => absurd e (by simp)) fun _ => ?_
  refine ix_t0 (x := .tup (leftW (W.map .str) ps)) (r := [.lst ((leftBrs (W.map .str) ps).map itD)]) ?_
  refine ix_t1 (w := .tup (leftW (W.map .str) ps)) (x := .lst ((leftBrs (W.map .str) ps).map itD)) (r := []) ?_
  refine ⟨(.tup (leftW (W.map .str) ps), .lst ((leftBrs (W.map .str) ps).map itD)), rfl, ⟨fine_lets a1 (by omega), fine_row (.inl rfl) (by rw [List.length_map]; omega) fun x m => ?_⟩, ?_⟩
  · obtain ⟨b, hb, rfl⟩ := List.mem_map.mp m
    obtain ⟨_, c2, c3⟩ := b1 b hb
    exact fine_itD c3 (by omega)
  dsimp only
  rw [putRes_ok a1 (.inl rfl) ub fun b m => (b1 b m).2.2, pb]
  simp only [Res.put]
  refine var_d (d := .tup (W.map .str)) rfl ?_
  refine neA_word w1 ?_
  exact q
end
end L56
set_option maxHeartbeats 2000000
namespace L56
open PySem PySem.Spec PyProof.Rows L2 HG PU LamX
theorem told_er {a : SpD} {us : TDa} {ds : List PU.D} {c : Addr} {ns : List Str} {xs : List PU.D} {nm txt : Str} {K : PySem.W.Frag} {CE B CB CP : Addr} {ρ : List S} {n : Nat} {Q : PU.D → Nat → Prop} (hu : ∀ R : List PU.D → Nat → Prop, R ds n → us (fro ρ) n R)
    (ha : ∀ (Q : PU.D → Nat → Prop) (E : XD), E c ns xs 0 → a ds 0 Q E) (hit : PySem.W.exmOne K (.ref c) (.ref CE) = some true) (td : ToldD B CB CP c ns xs nm txt) (q : Q (.tup [.str nm, .str txt]) n) : uTold K CE B CB CP (fun x => uCpX a x us) ρ n Q :=
  hu _ (ha _ _ ⟨hit, nm, txt, td, q⟩)
theorem told_ok {a : SpD} {us : TDa} {ds : List PU.D} {d : PU.D} {K : PySem.W.Frag} {CE B CB CP : Addr} {ρ : List S} {n : Nat} {Q : PU.D → Nat → Prop} (hu : ∀ R : List PU.D → Nat → Prop, R ds n → us (fro ρ) n R)
    (ha : ∀ (Q : PU.D → Nat → Prop) (E : XD), Q d 0 → a ds 0 Q E) (q : Q (.tup [.str "fine", d]) n) : uTold K CE B CB CP (fun x => uCpX a x us) ρ n Q :=
  hu _ (ha _ _ q)
theorem neA_bad {Q : PU.D → Prop} (q : Q (.bl false)) : rEqA not (.tup [.str "BadWord", .str ""]) (.tup [.str "BadWord", .str ""]) Q := by
  have lay : PyData.canLay0 (.tuple [.str "BadWord", .str ""]) = true := by
    simp only [PyData.canLay0, PyData.canLayAll0, Bool.and_true]
    decide +kernel
  have sh : SeqAt.shaped (.tuple [.str "BadWord", .str ""]) = true := by
    show (PyData.canLay0 _ && decide (PyData.depth _ ≤ 64)) = true
    rw [lay, Bool.true_and]
    refine decide_eq_true ?_
    simp [PyData.depth, PyData.depthAll]
  have py : (D.tup [.str "BadWord", .str ""]).py = some (.tuple [.str "BadWord", .str ""]) := by simp only [D.py, pyA, Option.map]
  show PU.rEqD not (.tup [.str "BadWord", .str ""]) (.tup [.str "BadWord", .str ""]) Q
  unfold PU.rEqD
  rw [py]
  refine ⟨sh, sh, ?_⟩
  rw [PySem.SeqAt.eqv_refl _ lay]
  exact q
theorem bads {V : List PU.D} (h : V.all isLet = true) (l : V.length ≤ 100) : ∀ d ∈ [PU.D.lst V, .non, .tup (V ++ [.str ""]), .tup (V ++ [.int 5]), .tup ([.str "abcdefghijklm"] ++ V), .str "a", .tup [.non]], isWord d = false ∧ fine d = true := by
  have fv : ∀ x ∈ V, fine x = true := (fine_tup (fine_lets h (by omega))).2
  intro d hd
  simp only [List.mem_cons, List.not_mem_nil, or_false] at hd
  have ap : ∀ {x : PU.D}, fine x = true → fine (.tup (V ++ [x])) = true := fun hx => fine_tup' (by rw [List.length_append, List.length_singleton]; omega) fun y m => by
    rcases List.mem_append.mp m with m | m
    · exact fv y m
    · rw [List.mem_singleton.mp m]; exact hx
  have no : ∀ {x : PU.D}, isLet x = false → isWord (.tup (V ++ [x])) = false := fun hx => by
    show (V ++ [_]).all isLet = false
    rw [List.all_append]
    simp [hx]
  rcases hd with rfl | rfl | rfl | rfl | rfl | rfl | rfl
  · exact ⟨rfl, fine_lst' (by omega) fv⟩
  · exact ⟨rfl, rfl⟩
  · exact ⟨no (by decide +kernel), ap (by decide +kernel)⟩
  · exact ⟨no rfl, ap rfl⟩
  · refine ⟨?_, fine_tup' (by rw [List.length_append, List.length_singleton]; omega) fun y m => ?_⟩
    · show ([_] ++ V).all isLet = false
      rw [List.all_append, show [PU.D.str "abcdefghijklm"].all isLet = false from by decide +kernel]
      rfl
    · rcases List.mem_append.mp m with m | m
      · rw [List.mem_singleton.mp m]; decide +kernel
      · exact fv y m
  · exact ⟨rfl, by decide +kernel⟩
  · exact ⟨by decide +kernel, by decide +kernel⟩
section
variable {P : Program} {w : World} {K : PySem.W.Frag} {mg : Str → Option Value} {base : Heap} {CE B CB CP cc Pt : Addr} {T : List (Addr × Str)} (h : LawX P w K mg base CE B CB CP cc Pt T) {f : Addr} {A : Around} {outer : List Env} {s : Shared} {H : Hp} {E : XK} (ng : NoG (AL f cc A s)) (hr : Room 10 (AL f cc A s)) (hu66 : (AL f cc A s).units + 66 < cLine) {i : Addr × Addr × Addr}
theorem rd_15 {Ed : EndD} {n : Nat} {sc : D} {y2 y3 y5 y6 y7 y8 y9 y10 y11 y12 y13 y14 y15 y16 y17 y18 y19 : S} {W : List Str} (hn : n < 999000000) (hW : ∀ z ∈ W, letS z = true) (lW : W.length ≤ 8)
    (q : ∀ (d : PU.D) (m : Nat), m ≤ n + 1 → isWord d = false → fine d = true → Ed.nx [.d sc, .d (.ref i.1), y2, y3, .d (.tup (W.map .str)), y5, y6, y7, y8, y9, y10, y11, y12, y13, y14, y15, y16, y17, y18, .d d] m) :
    (st_15 h (outer := outer) (H := H) (E := E) ng hr hu66 i).1 Ed [.d sc, .d (.ref i.1), y2, y3, .d (.tup (W.map .str)), y5, y6, y7, y8, y9, y10, y11, y12, y13, y14, y15, y16, y17, y18, y19] n := by
  have sz : sizeLine = 16777216 := sizeLine_eq
  unfold st_15
  dsimp only
  have w1 := all_lets hW
  have l1 : (W.map D.str).length = W.length := List.length_map ..
  refine ⟨by show 1 ≤ sizeLine; decide, by show (W.map D.str).length + 1 ≤ sizeLine; omega, by show 1 ≤ sizeLine; decide, by show (W.map D.str).length + 1 ≤ sizeLine; omega, by show 1 ≤ sizeLine; decide, by show 1 + (W.map D.str).length ≤ sizeLine; omega, by show 1 ≤ sizeLine; decide, by show 7 ≤ sizeLine; decide, ?_⟩
  refine ⟨(.lst _, _), rfl, ⟨.inl rfl, by simp, by simp, by omega⟩, fun d m hd => ?_⟩
  obtain ⟨hd, rfl⟩ := hd
  have hb := bads w1 (by omega) d hd
  exact q d _ (Nat.le_refl _) hb.1 hb.2
theorem rd_16 {Ed : EndD} {n : Nat} {sc : D} {y2 y3 y4 y5 y6 y7 y8 y9 y10 y11 y12 y13 y14 y15 y16 y17 y18 : S} {bd : PU.D} (hb : isWord bd = false) (fb : fine bd = true)
    (q : Ed.nx [.d sc, .d (.ref i.1), y2, y3, y4, y5, y6, y7, y8, y9, y10, y11, y12, y13, y14, y15, y16, y17, y18, .d bd] n) :
    (st_16 h (outer := outer) (H := H) (E := E) ng hr hu66 i).1 Ed [.d sc, .d (.ref i.1), y2, y3, y4, y5, y6, y7, y8, y9, y10, y11, y12, y13, y14, y15, y16, y17, y18, .d bd] n := by
  have sz : sizeLine = 16777216 := sizeLine_eq
  unfold st_16
  dsimp only
  unfold uIfS uB uOp
  refine told_er (ds := [bd, .non]) (c := B) (ns := []) (xs := []) (fun Rr r => ?_) (fun Qq Ee z => ?_) h.G.cl.hB .word ?_
  · simp only [fro_cons]
    exact r
  · refine ⟨(bd, .non), rfl, ⟨fb, rfl⟩, ?_⟩
    dsimp only
    rw [show putRes B CB bd .non = .er B [] [] from by unfold putRes; rw [if_neg (by rw [hb]; decide)]]
    exact z
  · refine ⟨by show 2 ≤ sizeLine; decide, ?_⟩
    refine neA_bad ?_
    exact q
theorem rd_17 {Ed : EndD} {n : Nat} {sc : D} {y2 y3 y4 y5 y6 y7 y8 y9 y10 y11 y12 y13 y14 y15 y16 y17 y18 : S} {bd : PU.D} (hb : isWord bd = false) (fb : fine bd = true)
    (q : Ed.nx [.d sc, .d (.ref i.1), y2, y3, y4, y5, y6, y7, y8, y9, y10, y11, y12, y13, y14, y15, y16, y17, y18, .d bd] n) :
    (st_17 h (outer := outer) (H := H) (E := E) ng hr hu66 i).1 Ed [.d sc, .d (.ref i.1), y2, y3, y4, y5, y6, y7, y8, y9, y10, y11, y12, y13, y14, y15, y16, y17, y18, .d bd] n := by
  have sz : sizeLine = 16777216 := sizeLine_eq
  unfold st_17
  dsimp only
  unfold uIfS uB uOp
  refine told_er (ds := [bd, .int 5]) (c := B) (ns := []) (xs := []) (fun Rr r => ?_) (fun Qq Ee z => ?_) h.G.cl.hB .word ?_
  · simp only [fro_cons]
    exact r
  · refine ⟨(bd, .int 5), rfl, ⟨fb, rfl⟩, ?_⟩
    dsimp only
    rw [show takeRes B CP bd (.int 5) = .er B [] [] from by unfold takeRes; rw [if_neg (by rw [hb]; decide)]]
    exact z
  · refine ⟨by show 2 ≤ sizeLine; decide, ?_⟩
    refine neA_bad ?_
    exact q
end
end L56
set_option maxHeartbeats 2000000
namespace L56
open PySem PySem.Spec PyProof.Rows L2 HG PU LamX
theorem put_err {W : List D} : ∀ {its told : List D} {a i j : Nat}, putD W told a i its = .error j → j < i + its.length
  | [], _, _, _, _, h => by cases h
  | it :: r, told, a, i, j, h => by
    unfold putD at h
    rw [List.length_cons]
    split at h
    · have := put_err h
      omega
    · cases h
      omega
theorem take_err {W : List D} : ∀ {its rest brs : List D} {a i j : Nat}, takeD W rest brs a i its = .error j → j < i + its.length
  | [], _, _, _, _, _, h => by cases h
  | it :: r, rest, brs, a, i, j, h => by
    unfold takeD at h
    rw [List.length_cons]
    split at h
    · have := take_err h
      omega
    · cases h
      omega
theorem put_cases {B CB : Addr} {W : List D} {d : D} (hW : W.all isLet = true) (s : Small d) :
    (firstR W d true = .int (-1) ∧ ∃ bs : List Br, (d = .lst (bs.map itD) ∨ d = .tup (bs.map itD)) ∧ Up W.length 0 bs ∧ bs.length ≤ 100 ∧ (∀ b ∈ bs, b.2.length ≤ 100 ∧ b.2.all isLet = true) ∧ putRes B CB (.tup W) d = .ok (.tup (lawPut W bs))) ∨
    (∃ a dt, AtD a dt ∧ firstR W d true = a ∧ putRes B CB (.tup W) d = .er CB ["at"] [a]) := by
  have w : isWord (.tup W) = true := hW
  rcases rowOf_row s.fin with ⟨_, r2⟩ | ⟨its, r1, r2, _, _, r5⟩
  · refine .inr ⟨.non, .none, .non, ?_, ?_⟩
    · unfold firstR
      rw [r2]
    · unfold putRes
      rw [if_pos w, r2]
  · obtain ⟨l, k⟩ := s.row its r2
    have pf := put_first (W := W) (its := its) (told := []) (ahead := 0) (i := 0)
    have fr : firstR W d true = firstK (firstD true W.length 0 0 its) := by
      unfold firstR
      rw [r2]
    have pr : putRes B CB (.tup W) d = putK CB (putD W [] 0 0 its) := by
      unfold putRes
      rw [if_pos w, r2]
      rfl
    cases e : putD W [] 0 0 its with
    | ok R =>
      rw [e] at pf
      obtain ⟨bs, rfl, g, up, rfl⟩ := putD_ok e
      refine .inl ⟨by rw [fr, pf]; rfl, bs, r5, up, by rw [List.length_map] at l; exact l, fun b m => ⟨(k (itD b) (List.mem_map_of_mem m)).few b rfl, g b m⟩, ?_⟩
      rw [pr, e, put_law up]
      rfl
    | error j =>
      rw [e] at pf
      have hj := put_err e
      refine .inr ⟨.int (j : Nat), _, .int j (by omega), by rw [fr, pf]; rfl, ?_⟩
      rw [pr, e]
      rfl
theorem take_cases {B CP : Addr} {W : List D} {d : D} (hW : W.all isLet = true) (s : Small d) :
    (firstR W d false = .int (-1) ∧ ∃ ps : List Pi2, (d = .lst (ps.map piD) ∨ d = .tup (ps.map piD)) ∧ Up2 W.length 0 ps ∧ ps.length ≤ 100 ∧ takeRes B CP (.tup W) d = .ok (.tup [.tup (leftW W ps), .lst ((leftBrs W ps).map itD)])) ∨
    (∃ a dt, AtD a dt ∧ firstR W d false = a ∧ takeRes B CP (.tup W) d = .er CP ["at"] [a]) := by
  have w : isWord (.tup W) = true := hW
  rcases rowOf_row s.fin with ⟨_, r2⟩ | ⟨its, r1, r2, _, _, r5⟩
  · refine .inr ⟨.non, .none, .non, ?_, ?_⟩
    · unfold firstR
      rw [r2]
    · unfold takeRes
      rw [if_pos w, r2]
  · obtain ⟨l, k⟩ := s.row its r2
    have pf := take_first (W := W) (its := its) (rest := []) (brs := []) (ahead := 0) (i := 0)
    have fr : firstR W d false = firstK (firstD false W.length 0 0 its) := by
      unfold firstR
      rw [r2]
    have pr : takeRes B CP (.tup W) d = takeK CP (takeD W [] [] 0 0 its) := by
      unfold takeRes
      rw [if_pos w, r2]
      rfl
    cases e : takeD W [] [] 0 0 its with
    | ok R =>
      rw [e] at pf
      obtain ⟨ps, rfl, up, rfl⟩ := takeD_ok (brs := []) e
      refine .inl ⟨by rw [fr, pf]; rfl, ps, r5, up, by rw [List.length_map] at l; exact l, ?_⟩
      exact takeRes_ok hW r5 up
    | error j =>
      rw [e] at pf
      have hj := take_err e
      refine .inr ⟨.int (j : Nat), _, .int j (by omega), by rw [fr, pf]; rfl, ?_⟩
      rw [pr, e]
      rfl
theorem ofs_low (s : String) : ∀ c ∈ (Str.ofString s).cps.toList, c < 0x110000 := by
  intro c m
  rw [Str.ofString_eq_toList] at m
  obtain ⟨x, _, rfl⟩ := List.mem_map.mp (show c ∈ s.toList.map Char.toNat by simpa using m)
  have := x.valid
  rcases this with h | ⟨_, h⟩
  · exact Nat.lt_trans h (by decide)
  · exact h
theorem shd_text {s : String} {n : Nat} (h : (Str.ofString s).length ≤ n) : ShD 0 (10 * n + 2) (.str (Str.ofString s)) :=
  ⟨_, rfl, (sh_str fun c m => Nat.lt_trans (ofs_low s c m) (by decide)).more (Nat.le_refl _) (by omega)⟩
theorem at_text {a : D} {dt : PyData} (h : AtD a dt) : ShD 0 1022 (.str dt.shown) := by
  cases h with
  | non =>
    have e : PyData.shown .none = Str.ofString "None" := by simp only [PyData.shown]
    rw [e]
    exact (shd_text (n := 4) (by decide +kernel)).more (Nat.le_refl _) (by decide)
  | int i l =>
    have e : PyData.shown (.int (i : Int)) = Str.ofString (toString (i : Int)) := by simp only [PyData.shown]
    rw [e]
    exact shd_text (n := 102) (int_short (by have : (1000 : Nat) < 2 ^ 100 := by decide
                                             simp only [Int.natAbs_natCast]; exact Nat.lt_trans l this))
theorem at_py {a : D} {dt : PyData} (h : AtD a dt) : a.py = some dt ∧ Sh 0 102 dt := by
  cases h with
  | non => exact ⟨by simp only [D.py], AtV.sh .non⟩
  | int i l => exact ⟨by simp only [D.py], AtV.sh (.int i l)⟩
end L56
set_option maxHeartbeats 2000000
namespace L56
open PySem PySem.Spec PyProof.Rows L2 HG PU LamX
section
variable {P : Program} {w : World} {K : PySem.W.Frag} {mg : Str → Option Value} {base : Heap} {CE B CB CP cc Pt : Addr} {T : List (Addr × Str)} (h : LawX P w K mg base CE B CB CP cc Pt T) {f : Addr} {A : Around} {outer : List Env} {s : Shared} {H : Hp} {E : XK} (ng : NoG (AL f cc A s)) (hr : Room 10 (AL f cc A s)) (hu66 : (AL f cc A s).units + 66 < cLine) {i : Addr × Addr × Addr}
theorem rd_i0 {Ed : EndD} {n : Nat} {sc : D} {y2 y3 y5 y6 y8 y9 y10 y11 y12 y13 y14 y15 y16 y17 y18 y19 : S} {W : List Str} {bs : List Br} (hW : ∀ z ∈ W, letS z = true) (lW : W.length ≤ 8) (up : Up W.length 0 bs) (lb : bs.length ≤ 4) (g : ∀ b ∈ bs, b.2.length ≤ 3 ∧ b.2.all isLet = true) (hn : n < 999000000)
    (q : ∀ (d : PU.D) (m : Nat), m ≤ n + 20 → Small d → Ed.nx [.d sc, .d (.ref i.1), y2, y3, .d (.tup (W.map .str)), y5, y6, .d (.lst (bs.map itD)), y8, y9, y10, y11, y12, y13, y14, .d d, y16, y17, y18, y19] m) :
    (st_i0 h (outer := outer) (H := H) (E := E) ng hr hu66 i).1 Ed [.d sc, .d (.ref i.1), y2, y3, .d (.tup (W.map .str)), y5, y6, .d (.lst (bs.map itD)), y8, y9, y10, y11, y12, y13, y14, y15, y16, y17, y18, y19] n := by
  have sz : sizeLine = 16777216 := sizeLine_eq
  unfold st_i0
  dsimp only
  have w1 := all_lets hW
  have l1 : (W.map D.str).length = W.length := List.length_map ..
  have up' : Up (W.map D.str).length 0 bs := by rw [l1]; exact up
  have f1 : fine (.tup (W.map D.str)) = true := fine_lets w1 (by omega)
  have f2 : ∀ {d : D}, d = .lst (bs.map itD) ∨ d = .tup (bs.map itD) → fine d = true := fun e => fine_row e (by rw [List.length_map]; omega) fun x m => by
    obtain ⟨b, hb, rfl⟩ := List.mem_map.mp m
    exact fine_itD (g b hb).2 (by have := (g b hb).1; omega)
  have g3 : ∀ b ∈ bs, b.2.all isLet = true := fun b m => (g b m).2
  
  refine ⟨(W.map .str, _, true), rfl, ⟨by show (W.map D.str).length ≤ 100; omega, by show (List.map _ _).length ≤ 40; rw [List.length_map]; omega, fun it m => ?_, by omega⟩, fun d m hd => q d m hd.1 hd.2⟩
  obtain ⟨b, hb, rfl⟩ := List.mem_map.mp m
  exact ⟨fine_itD (g b hb).2 (by have := (g b hb).1; omega), fun b' e => by
    unfold itD at e
    injection e with e
    injection e with _ e
    injection e with e
    injection e with e
    rw [← e]
    have := (g b hb).1
    omega⟩
theorem rd_i1 {Ed : EndD} {n : Nat} {sc : D} {y2 y3 y5 y6 y7 y8 y9 y10 y11 y12 y13 y14 y16 y17 y18 y19 : S} {W : List Str} {d : PU.D} (lW : W.length ≤ 8) (sm : Small d)
    (q : Ed.nx [.d sc, .d (.ref i.1), y2, y3, .d (.tup (W.map .str)), y5, y6, y7, y8, y9, y10, y11, y12, y13, y14, .d d, .d (firstR (W.map .str) d true), y17, y18, y19] n) :
    (st_i1 h (outer := outer) (H := H) (E := E) ng hr hu66 i).1 Ed [.d sc, .d (.ref i.1), y2, y3, .d (.tup (W.map .str)), y5, y6, y7, y8, y9, y10, y11, y12, y13, y14, .d d, y16, y17, y18, y19] n := by
  have sz : sizeLine = 16777216 := sizeLine_eq
  unfold st_i1
  dsimp only
  have l1 : (W.map D.str).length = W.length := List.length_map ..
  exact ⟨(W.map .str, d, true), rfl, ⟨by show (W.map D.str).length < 1000; omega, sm.fin⟩, q⟩
theorem rd_i2A {Ed : EndD} {n : Nat} {sc : D} {y2 y3 y5 y6 y7 y8 y9 y10 y11 y12 y13 y14 y17 y18 y19 : S} {W : List Str} {d : PU.D} {bs : List Br} (hW : ∀ z ∈ W, letS z = true) (lW : W.length ≤ 8) (sm : Small d) (e : d = .lst (bs.map itD) ∨ d = .tup (bs.map itD)) (up : Up (W.map PU.D.str).length 0 bs) (lb : bs.length ≤ 100) (g : ∀ b ∈ bs, b.2.length ≤ 100 ∧ b.2.all isLet = true)
    (q : Ed.nx [.d sc, .d (.ref i.1), y2, y3, .d (.tup (W.map .str)), y5, y6, y7, y8, y9, y10, y11, y12, y13, y14, .d d, .d (.int (-1)), .d (.tup [.str "fine", .tup (lawPut (W.map .str) bs)]), y18, y19] n) :
    (st_i2 h (outer := outer) (H := H) (E := E) ng hr hu66 i).1 Ed [.d sc, .d (.ref i.1), y2, y3, .d (.tup (W.map .str)), y5, y6, y7, y8, y9, y10, y11, y12, y13, y14, .d d, .d (.int (-1)), y17, y18, y19] n := by
  have sz : sizeLine = 16777216 := sizeLine_eq
  unfold st_i2
  dsimp only
  have w1 := all_lets hW
  have l1 : (W.map D.str).length = W.length := List.length_map ..
  
  refine ⟨(W.map .str, d, bs), rfl, ⟨e, by show (W.map D.str).length ≤ 100; omega, lb, fun b m => (g b m).1⟩, ?_⟩
  refine ⟨by show 2 ≤ sizeLine; decide, ?_⟩
  exact q
theorem rd_i2B {Ed : EndD} {n : Nat} {sc : D} {y2 y3 y4 y5 y6 y7 y8 y9 y10 y11 y12 y13 y14 y15 y17 y18 y19 : S} {a : PU.D} {dt : PyData} (ad : AtD a dt)
    (q : Ed.nx [.d sc, .d (.ref i.1), y2, y3, y4, y5, y6, y7, y8, y9, y10, y11, y12, y13, y14, y15, .d a, .d (.tup [.str "BadBreaks", .str dt.shown]), y18, y19] n) :
    (st_i2 h (outer := outer) (H := H) (E := E) ng hr hu66 i).1 Ed [.d sc, .d (.ref i.1), y2, y3, y4, y5, y6, y7, y8, y9, y10, y11, y12, y13, y14, y15, .d a, y17, y18, y19] n := by
  have sz : sizeLine = 16777216 := sizeLine_eq
  unfold st_i2
  dsimp only
  obtain ⟨py, sh⟩ := at_py ad
  cases ad with
  | non =>
    refine ⟨_, 0, 102, py, sh, by omega, by omega, by show 2 ≤ sizeLine; decide, ?_⟩
    exact q
  | int j lj =>
    refine ⟨_, 0, 102, py, sh, by omega, by omega, by show 2 ≤ sizeLine; decide, ?_⟩
    exact q
theorem rd_i3A {Ed : EndD} {n : Nat} {sc : D} {y2 y3 y5 y6 y7 y8 y9 y10 y11 y12 y13 y14 y16 y18 y19 : S} {W : List Str} {d : PU.D} {bs : List Br} (hW : ∀ z ∈ W, letS z = true) (lW : W.length ≤ 8) (sm : Small d) (e : d = .lst (bs.map itD) ∨ d = .tup (bs.map itD)) (up : Up (W.map PU.D.str).length 0 bs) (lb : bs.length ≤ 100) (g : ∀ b ∈ bs, b.2.length ≤ 100 ∧ b.2.all isLet = true)
    (q : Ed.nx [.d sc, .d (.ref i.1), y2, y3, .d (.tup (W.map .str)), y5, y6, y7, y8, y9, y10, y11, y12, y13, y14, .d d, y16, .d (.tup [.str "fine", .tup (lawPut (W.map .str) bs)]), y18, y19] n) :
    (st_i3 h (outer := outer) (H := H) (E := E) ng hr hu66 i).1 Ed [.d sc, .d (.ref i.1), y2, y3, .d (.tup (W.map .str)), y5, y6, y7, y8, y9, y10, y11, y12, y13, y14, .d d, y16, .d (.tup [.str "fine", .tup (lawPut (W.map .str) bs)]), y18, y19] n := by
  have sz : sizeLine = 16777216 := sizeLine_eq
  have w1 := all_lets hW
  have l1 : (W.map D.str).length = W.length := List.length_map ..
  
  have f1 : fine (.tup (W.map D.str)) = true := fine_lets w1 (by omega)
  have SA := shd_put w1 (by omega) up lb g
  have S2 : ShD 2 11000000 (.tup [.str "fine", .tup (lawPut (W.map .str) bs)]) := (shd_tup (k := 1) (n := 1300000) fun x m => by
    simp only [List.mem_cons, List.not_mem_nil, or_false] at m
    rcases m with rfl | rfl
    · exact (shd_text (s := "fine") (n := 4) (by decide +kernel)).more (by omega) (by omega)
    · exact SA).more (Nat.le_refl _) (by simp only [List.length_cons, List.length_nil]; omega)
  obtain ⟨p, hp, sh⟩ := S2
  unfold st_i3
  dsimp only
  unfold uIfS uB uOp uCall uCons
  refine told_ok (ds := [.tup (W.map .str), d]) (d := .tup (lawPut (W.map .str) bs)) (fun Rr r => ?_) (fun Qq Ee z => ?_) ?_
  · simp only [fro_cons]
    exact r
  · refine ⟨(.tup (W.map .str), d), rfl, ⟨f1, sm.fin⟩, ?_⟩
    dsimp only
    rw [putRes_ok w1 e up fun b m => (g b m).2]
    exact z
  · refine ⟨p, 2, 11000000, hp, sh, by omega, by omega, ?_⟩
    refine ⟨p, 2, 11000000, hp, sh, by omega, by omega, ?_⟩
    exact ite_b (fun e => absurd e (by simp)) fun _ => q
theorem rd_i3B {Ed : EndD} {n : Nat} {sc : D} {y2 y3 y5 y6 y7 y8 y9 y10 y11 y12 y13 y14 y16 y18 y19 : S} {W : List Str} {d : PU.D} (hW : ∀ z ∈ W, letS z = true) (lW : W.length ≤ 8) (sm : Small d) {a : PU.D} {dt : PyData} (ad : AtD a dt) (er : putRes B CB (.tup (W.map .str)) d = .er CB ["at"] [a])
    (q : Ed.nx [.d sc, .d (.ref i.1), y2, y3, .d (.tup (W.map .str)), y5, y6, y7, y8, y9, y10, y11, y12, y13, y14, .d d, y16, .d (.tup [.str "BadBreaks", .str dt.shown]), y18, y19] n) :
    (st_i3 h (outer := outer) (H := H) (E := E) ng hr hu66 i).1 Ed [.d sc, .d (.ref i.1), y2, y3, .d (.tup (W.map .str)), y5, y6, y7, y8, y9, y10, y11, y12, y13, y14, .d d, y16, .d (.tup [.str "BadBreaks", .str dt.shown]), y18, y19] n := by
  have sz : sizeLine = 16777216 := sizeLine_eq
  have w1 := all_lets hW
  have l1 : (W.map D.str).length = W.length := List.length_map ..
  
  have f1 : fine (.tup (W.map D.str)) = true := fine_lets w1 (by omega)
  have SA := at_text ad
  have S2 : ShD 1 3000 (.tup [.str "BadBreaks", .str dt.shown]) := (shd_tup (k := 0) (n := 1022) fun x m => by
    simp only [List.mem_cons, List.not_mem_nil, or_false] at m
    rcases m with rfl | rfl
    · exact (shd_text (s := "BadBreaks") (n := 9) (by decide +kernel)).more (by omega) (by omega)
    · exact SA).more (Nat.le_refl _) (by simp only [List.length_cons, List.length_nil]; omega)
  obtain ⟨p, hp, sh⟩ := S2
  unfold st_i3
  dsimp only
  unfold uIfS uB uOp uCall uCons
  refine told_er (ds := [.tup (W.map .str), d]) (c := CB) (ns := ["at"]) (xs := [a]) (fun Rr r => ?_) (fun Qq Ee z => ?_) h.G.cl.hCB (.breaks ad) ?_
  · simp only [fro_cons]
    exact r
  · refine ⟨(.tup (W.map .str), d), rfl, ⟨f1, sm.fin⟩, ?_⟩
    dsimp only
    rw [er]
    exact z
  · refine ⟨p, 1, 3000, hp, sh, by omega, by omega, ?_⟩
    refine ⟨p, 1, 3000, hp, sh, by omega, by omega, ?_⟩
    exact ite_b (fun e => absurd e (by simp)) fun _ => q
end
end L56
set_option maxHeartbeats 2000000
namespace L56
open PySem PySem.Spec PyProof.Rows L2 HG PU LamX
@[irreducible] def st_i4 {P : Program} {w : World} {K : PySem.W.Frag} {mg : Str → Option Value} {base : Heap} {CE B CB CP cc Pt : Addr} {T : List (Addr × Str)} (h : LawX P w K mg base CE B CB CP cc Pt T) {f : Addr} {A : Around} {outer : List Env} {s : Shared} {H : Hp} {E : XK} (ng : NoG (AL f cc A s)) (hr : Room 10 (AL f cc A s)) (hu66 : (AL f cc A s).units + 66 < cLine) (i : Addr × Addr × Addr) :
    {wd : TDs // ∀ F0 H0, (cnOf (gLaw T i) F0 H0).Ok → US (XL P w K mg base f cc A outer s H E) (cnOf (gLaw T i) F0 H0) (bodyI.getD 4 (.Pass ⟨0, 0, 0, 0⟩)) wd} := by
  have nd : NL.Nodup := sc_law.nd
  have Lm : ∀ {scope : Scope}, lamSB (defScope s_law) scope = true → LamS (defScope s_law) scope := fun h => lamS_by h
  have hu := hr.units
  exact ⟨_, fun F0 H0 hC => have em : Emb (gDraw i) (cnOf (gLaw T i) F0 H0).toGh := emb_law; (us_set (i := 18) (uc_e i em hC h.c__law_bent hr pass0 (ua_cons (ue_var (i := 1)) (ua_cons (ue_var (i := 4)) (ua_cons (ue_var (i := 10)) (ua_cons ue_bl ua_nil))))) nd)⟩
@[irreducible] def st_i5 {P : Program} {w : World} {K : PySem.W.Frag} {mg : Str → Option Value} {base : Heap} {CE B CB CP cc Pt : Addr} {T : List (Addr × Str)} (h : LawX P w K mg base CE B CB CP cc Pt T) {f : Addr} {A : Around} {outer : List Env} {s : Shared} {H : Hp} {E : XK} (ng : NoG (AL f cc A s)) (hr : Room 10 (AL f cc A s)) (hu66 : (AL f cc A s).units + 66 < cLine) (i : Addr × Addr × Addr) :
    {wd : TDs // ∀ F0 H0, (cnOf (gLaw T i) F0 H0).Ok → US (XL P w K mg base f cc A outer s H E) (cnOf (gLaw T i) F0 H0) (bodyI.getD 5 (.Pass ⟨0, 0, 0, 0⟩)) wd} := by
  have nd : NL.Nodup := sc_law.nd
  have Lm : ∀ {scope : Scope}, lamSB (defScope s_law) scope = true → LamS (defScope s_law) scope := fun h => lamS_by h
  have hu := hr.units
  exact ⟨_, fun F0 H0 hC => have em : Emb (gDraw i) (cnOf (gLaw T i) F0 H0).toGh := emb_law; (us_set (i := 16) (uc_p h.c__law_first hr pass0 (ua_cons (ue_var (i := 4)) (ua_cons (ue_var (i := 18)) (ua_cons ue_bl ua_nil)))) nd)⟩
@[irreducible] def st_i6 {P : Program} {w : World} {K : PySem.W.Frag} {mg : Str → Option Value} {base : Heap} {CE B CB CP cc Pt : Addr} {T : List (Addr × Str)} (h : LawX P w K mg base CE B CB CP cc Pt T) {f : Addr} {A : Around} {outer : List Env} {s : Shared} {H : Hp} {E : XK} (ng : NoG (AL f cc A s)) (hr : Room 10 (AL f cc A s)) (hu66 : (AL f cc A s).units + 66 < cLine) (i : Addr × Addr × Addr) :
    {wd : TDs // ∀ F0 H0, (cnOf (gLaw T i) F0 H0).Ok → US (XL P w K mg base f cc A outer s H E) (cnOf (gLaw T i) F0 H0) (bodyI.getD 6 (.Pass ⟨0, 0, 0, 0⟩)) wd} := by
  have nd : NL.Nodup := sc_law.nd
  have Lm : ∀ {scope : Scope}, lamSB (defScope s_law) scope = true → LamS (defScope s_law) scope := fun h => lamS_by h
  have hu := hr.units
  exact ⟨_, fun F0 H0 hC => have em : Emb (gDraw i) (cnOf (gLaw T i) F0 H0).toGh := emb_law; (us_set (i := 17) (ue_ifExp (ut_cmp (opd_eqA hu) (ue_var (i := 16)) (ue_neg ue_int)) (ue_tup (ua_cons ue_str (ua_cons (uc_p h.c__law_left hr pass0 (ua_cons (ue_var (i := 4)) (ua_cons (ue_var (i := 18)) ua_nil))) ua_nil))) (ue_tup (ua_cons ue_str (ua_cons (ue_callB (cd_repr ng hu66) h.z_repr (ua_cons (ue_var (i := 16)) ua_nil)) ua_nil)))) nd)⟩
@[irreducible] def st_i7 {P : Program} {w : World} {K : PySem.W.Frag} {mg : Str → Option Value} {base : Heap} {CE B CB CP cc Pt : Addr} {T : List (Addr × Str)} (h : LawX P w K mg base CE B CB CP cc Pt T) {f : Addr} {A : Around} {outer : List Env} {s : Shared} {H : Hp} {E : XK} (ng : NoG (AL f cc A s)) (hr : Room 10 (AL f cc A s)) (hu66 : (AL f cc A s).units + 66 < cLine) (i : Addr × Addr × Addr) :
    {wd : TDs // ∀ F0 H0, (cnOf (gLaw T i) F0 H0).Ok → US (XL P w K mg base f cc A outer s H E) (cnOf (gLaw T i) F0 H0) (bodyI.getD 7 (.Pass ⟨0, 0, 0, 0⟩)) wd} := by
  have nd : NL.Nodup := sc_law.nd
  have Lm : ∀ {scope : Scope}, lamSB (defScope s_law) scope = true → LamS (defScope s_law) scope := fun h => lamS_by h
  have hu := hr.units
  exact ⟨_, fun F0 H0 hC => have em : Emb (gDraw i) (cnOf (gLaw T i) F0 H0).toGh := emb_law; (us_if (ut_cmp (opd_neA hu) (ue_callB (cd_repr ng hu66) h.z_repr (ua_cons (ue_told (k := 8) hC gLaw_lam h.G h.z_isinstance h.z_repr ng h.TB rfl h.hm h.hu_ hr (fun _ => mo_cpx (h.c_taken_out.mo ()) (mo_Cons mo_Var (mo_Cons mo_Var mo_Nil))) (fun _ _ _ _ _ j w => mx_cpx (h.c_taken_out.mo ()) (mo_Cons mo_Var (mo_Cons mo_Var mo_Nil)) j w) (fun A outer s H Ev f c2 F0 H0 Ed hr2 ok2 xo => uc_pX xo h.c_taken_out hr2 passL2 (ua_cons (ue_var (i := 4)) (ua_cons (ue_var (i := 18)) ua_nil))) rfl (Lm (by decide +kernel))) ua_nil)) (ue_callB (cd_repr ng hu66) h.z_repr (ua_cons (ue_var (i := 17)) ua_nil))) (us_one (us_ret ue_bl)) us_nil)⟩
end L56
set_option maxHeartbeats 2000000
namespace L56
open PySem PySem.Spec PyProof.Rows L2 HG PU LamX
section
variable {P : Program} {w : World} {K : PySem.W.Frag} {mg : Str → Option Value} {base : Heap} {CE B CB CP cc Pt : Addr} {T : List (Addr × Str)} (h : LawX P w K mg base CE B CB CP cc Pt T) {f : Addr} {A : Around} {outer : List Env} {s : Shared} {H : Hp} {E : XK} (ng : NoG (AL f cc A s)) (hr : Room 10 (AL f cc A s)) (hu66 : (AL f cc A s).units + 66 < cLine) {i : Addr × Addr × Addr}
theorem rd_i4 {Ed : EndD} {n : Nat} {sc : D} {y2 y3 y5 y6 y7 y8 y9 y11 y12 y13 y14 y15 y16 y17 y18 y19 : S} {W : List Str} {ps : List Pi2} (hW : ∀ z ∈ W, letS z = true) (lW : W.length ≤ 8) (up : Up2 W.length 0 ps) (lp : ps.length ≤ 3) (hn : n < 999000000)
    (q : ∀ (d : PU.D) (m : Nat), m ≤ n + 20 → Small d → Ed.nx [.d sc, .d (.ref i.1), y2, y3, .d (.tup (W.map .str)), y5, y6, y7, y8, y9, .d (.lst (ps.map piD)), y11, y12, y13, y14, y15, y16, y17, .d d, y19] m) :
    (st_i4 h (outer := outer) (H := H) (E := E) ng hr hu66 i).1 Ed [.d sc, .d (.ref i.1), y2, y3, .d (.tup (W.map .str)), y5, y6, y7, y8, y9, .d (.lst (ps.map piD)), y11, y12, y13, y14, y15, y16, y17, y18, y19] n := by
  have sz : sizeLine = 16777216 := sizeLine_eq
  unfold st_i4
  dsimp only
  have w1 := all_lets hW
  have l1 : (W.map D.str).length = W.length := List.length_map ..
  have up' : Up2 (W.map D.str).length 0 ps := by rw [l1]; exact up
  have f1 : fine (.tup (W.map D.str)) = true := fine_lets w1 (by omega)
  have f2 : ∀ {d : D}, d = .lst (ps.map piD) ∨ d = .tup (ps.map piD) → fine d = true := fun e => fine_row e (by rw [List.length_map]; omega) fun x m => by
    obtain ⟨b, hb, rfl⟩ := List.mem_map.mp m
    exact fine_piD
  
  refine ⟨(W.map .str, _, false), rfl, ⟨by show (W.map D.str).length ≤ 100; omega, by show (List.map _ _).length ≤ 40; rw [List.length_map]; omega, fun it m => ?_, by omega⟩, fun d m hd => q d m hd.1 hd.2⟩
  obtain ⟨b, hb, rfl⟩ := List.mem_map.mp m
  exact ⟨fine_piD, fun b' e => by
    unfold itD piD at e
    injection e with e
    injection e with _ e
    injection e with e
    cases e⟩
theorem rd_i5 {Ed : EndD} {n : Nat} {sc : D} {y2 y3 y5 y6 y7 y8 y9 y10 y11 y12 y13 y14 y15 y16 y17 y19 : S} {W : List Str} {d : PU.D} (lW : W.length ≤ 8) (sm : Small d)
    (q : Ed.nx [.d sc, .d (.ref i.1), y2, y3, .d (.tup (W.map .str)), y5, y6, y7, y8, y9, y10, y11, y12, y13, y14, y15, .d (firstR (W.map .str) d false), y17, .d d, y19] n) :
    (st_i5 h (outer := outer) (H := H) (E := E) ng hr hu66 i).1 Ed [.d sc, .d (.ref i.1), y2, y3, .d (.tup (W.map .str)), y5, y6, y7, y8, y9, y10, y11, y12, y13, y14, y15, y16, y17, .d d, y19] n := by
  have sz : sizeLine = 16777216 := sizeLine_eq
  unfold st_i5
  dsimp only
  have l1 : (W.map D.str).length = W.length := List.length_map ..
  exact ⟨(W.map .str, d, false), rfl, ⟨by show (W.map D.str).length < 1000; omega, sm.fin⟩, q⟩
theorem rd_i6A {Ed : EndD} {n : Nat} {sc : D} {y2 y3 y5 y6 y7 y8 y9 y10 y11 y12 y13 y14 y15 y17 y19 : S} {W : List Str} {d : PU.D} {ps : List Pi2} (hW : ∀ z ∈ W, letS z = true) (lW : W.length ≤ 8) (sm : Small d) (e : d = .lst (ps.map piD) ∨ d = .tup (ps.map piD)) (up : Up2 (W.map PU.D.str).length 0 ps) (lp : ps.length ≤ 100)
    (q : Ed.nx [.d sc, .d (.ref i.1), y2, y3, .d (.tup (W.map .str)), y5, y6, y7, y8, y9, y10, y11, y12, y13, y14, y15, .d (.int (-1)), .d (.tup [.str "fine", .tup [.tup (leftW (W.map .str) ps), .lst ((leftBrs (W.map .str) ps).map itD)]]), .d d, y19] n) :
    (st_i6 h (outer := outer) (H := H) (E := E) ng hr hu66 i).1 Ed [.d sc, .d (.ref i.1), y2, y3, .d (.tup (W.map .str)), y5, y6, y7, y8, y9, y10, y11, y12, y13, y14, y15, .d (.int (-1)), y17, .d d, y19] n := by
  have sz : sizeLine = 16777216 := sizeLine_eq
  unfold st_i6
  dsimp only
  have w1 := all_lets hW
  have l1 : (W.map D.str).length = W.length := List.length_map ..
  
  refine ⟨(W.map .str, d, ps), rfl, ⟨e, by show (W.map D.str).length ≤ 100; omega, lp, fun p m => up.inn p m⟩, ?_⟩
  refine ⟨by show 2 ≤ sizeLine; decide, ?_⟩
  exact q
theorem rd_i6B {Ed : EndD} {n : Nat} {sc : D} {y2 y3 y4 y5 y6 y7 y8 y9 y10 y11 y12 y13 y14 y15 y17 y18 y19 : S} {a : PU.D} {dt : PyData} (ad : AtD a dt)
    (q : Ed.nx [.d sc, .d (.ref i.1), y2, y3, y4, y5, y6, y7, y8, y9, y10, y11, y12, y13, y14, y15, .d a, .d (.tup [.str "BadPieces", .str dt.shown]), y18, y19] n) :
    (st_i6 h (outer := outer) (H := H) (E := E) ng hr hu66 i).1 Ed [.d sc, .d (.ref i.1), y2, y3, y4, y5, y6, y7, y8, y9, y10, y11, y12, y13, y14, y15, .d a, y17, y18, y19] n := by
  have sz : sizeLine = 16777216 := sizeLine_eq
  unfold st_i6
  dsimp only
  obtain ⟨py, sh⟩ := at_py ad
  cases ad with
  | non =>
    refine ⟨_, 0, 102, py, sh, by omega, by omega, by show 2 ≤ sizeLine; decide, ?_⟩
    exact q
  | int j lj =>
    refine ⟨_, 0, 102, py, sh, by omega, by omega, by show 2 ≤ sizeLine; decide, ?_⟩
    exact q
theorem rd_i7A {Ed : EndD} {n : Nat} {sc : D} {y2 y3 y5 y6 y7 y8 y9 y10 y11 y12 y13 y14 y15 y16 y19 : S} {W : List Str} {d : PU.D} {ps : List Pi2} (hW : ∀ z ∈ W, letS z = true) (lW : W.length ≤ 8) (sm : Small d) (e : d = .lst (ps.map piD) ∨ d = .tup (ps.map piD)) (up : Up2 (W.map PU.D.str).length 0 ps) (lp : ps.length ≤ 100)
    (q : Ed.nx [.d sc, .d (.ref i.1), y2, y3, .d (.tup (W.map .str)), y5, y6, y7, y8, y9, y10, y11, y12, y13, y14, y15, y16, .d (.tup [.str "fine", .tup [.tup (leftW (W.map .str) ps), .lst ((leftBrs (W.map .str) ps).map itD)]]), .d d, y19] n) :
    (st_i7 h (outer := outer) (H := H) (E := E) ng hr hu66 i).1 Ed [.d sc, .d (.ref i.1), y2, y3, .d (.tup (W.map .str)), y5, y6, y7, y8, y9, y10, y11, y12, y13, y14, y15, y16, .d (.tup [.str "fine", .tup [.tup (leftW (W.map .str) ps), .lst ((leftBrs (W.map .str) ps).map itD)]]), .d d, y19] n := by
  have sz : sizeLine = 16777216 := sizeLine_eq
  have w1 := all_lets hW
  have l1 : (W.map D.str).length = W.length := List.length_map ..
  
  have f1 : fine (.tup (W.map D.str)) = true := fine_lets w1 (by omega)
  have SA := shd_take w1 (by omega) lp
  have S2 : ShD 5 11000000 (.tup [.str "fine", .tup [.tup (leftW (W.map .str) ps), .lst ((leftBrs (W.map .str) ps).map itD)]]) := (shd_tup (k := 4) (n := 5100000) fun x m => by
    simp only [List.mem_cons, List.not_mem_nil, or_false] at m
    rcases m with rfl | rfl
    · exact (shd_text (s := "fine") (n := 4) (by decide +kernel)).more (by omega) (by omega)
    · exact SA).more (Nat.le_refl _) (by simp only [List.length_cons, List.length_nil]; omega)
  obtain ⟨p, hp, sh⟩ := S2
  unfold st_i7
  dsimp only
  unfold uIfS uB uOp uCall uCons
  refine told_ok (ds := [.tup (W.map .str), d]) (d := .tup [.tup (leftW (W.map .str) ps), .lst ((leftBrs (W.map .str) ps).map itD)]) (fun Rr r => ?_) (fun Qq Ee z => ?_) ?_
  · simp only [fro_cons]
    exact r
  · refine ⟨(.tup (W.map .str), d), rfl, ⟨f1, sm.fin⟩, ?_⟩
    dsimp only
    rw [takeRes_ok w1 e up]
    exact z
  · refine ⟨p, 5, 11000000, hp, sh, by omega, by omega, ?_⟩
    refine ⟨p, 5, 11000000, hp, sh, by omega, by omega, ?_⟩
    exact ite_b (fun e => absurd e (by simp)) fun _ => q
theorem rd_i7B {Ed : EndD} {n : Nat} {sc : D} {y2 y3 y5 y6 y7 y8 y9 y10 y11 y12 y13 y14 y15 y16 y19 : S} {W : List Str} {d : PU.D} (hW : ∀ z ∈ W, letS z = true) (lW : W.length ≤ 8) (sm : Small d) {a : PU.D} {dt : PyData} (ad : AtD a dt) (er : takeRes B CP (.tup (W.map .str)) d = .er CP ["at"] [a])
    (q : Ed.nx [.d sc, .d (.ref i.1), y2, y3, .d (.tup (W.map .str)), y5, y6, y7, y8, y9, y10, y11, y12, y13, y14, y15, y16, .d (.tup [.str "BadPieces", .str dt.shown]), .d d, y19] n) :
    (st_i7 h (outer := outer) (H := H) (E := E) ng hr hu66 i).1 Ed [.d sc, .d (.ref i.1), y2, y3, .d (.tup (W.map .str)), y5, y6, y7, y8, y9, y10, y11, y12, y13, y14, y15, y16, .d (.tup [.str "BadPieces", .str dt.shown]), .d d, y19] n := by
  have sz : sizeLine = 16777216 := sizeLine_eq
  have w1 := all_lets hW
  have l1 : (W.map D.str).length = W.length := List.length_map ..
  
  have f1 : fine (.tup (W.map D.str)) = true := fine_lets w1 (by omega)
  have SA := at_text ad
  have S2 : ShD 1 3000 (.tup [.str "BadPieces", .str dt.shown]) := (shd_tup (k := 0) (n := 1022) fun x m => by
    simp only [List.mem_cons, List.not_mem_nil, or_false] at m
    rcases m with rfl | rfl
    · exact (shd_text (s := "BadPieces") (n := 9) (by decide +kernel)).more (by omega) (by omega)
    · exact SA).more (Nat.le_refl _) (by simp only [List.length_cons, List.length_nil]; omega)
  obtain ⟨p, hp, sh⟩ := S2
  unfold st_i7
  dsimp only
  unfold uIfS uB uOp uCall uCons
  refine told_er (ds := [.tup (W.map .str), d]) (c := CP) (ns := ["at"]) (xs := [a]) (fun Rr r => ?_) (fun Qq Ee z => ?_) h.G.cl.hCP (.pieces ad) ?_
  · simp only [fro_cons]
    exact r
  · refine ⟨(.tup (W.map .str), d), rfl, ⟨f1, sm.fin⟩, ?_⟩
    dsimp only
    rw [er]
    exact z
  · refine ⟨p, 1, 3000, hp, sh, by omega, by omega, ?_⟩
    refine ⟨p, 1, 3000, hp, sh, by omega, by omega, ?_⟩
    exact ite_b (fun e => absurd e (by simp)) fun _ => q
end
end L56
set_option maxHeartbeats 2000000
namespace L56
open PySem PySem.Spec PyProof.Rows L2 HG PU LamX
@[irreducible] def st_14 {P : Program} {w : World} {K : PySem.W.Frag} {mg : Str → Option Value} {base : Heap} {CE B CB CP cc Pt : Addr} {T : List (Addr × Str)} (h : LawX P w K mg base CE B CB CP cc Pt T) {f : Addr} {A : Around} {outer : List Env} {s : Shared} {H : Hp} {E : XK} (ng : NoG (AL f cc A s)) (hr : Room 10 (AL f cc A s)) (hu66 : (AL f cc A s).units + 66 < cLine) (i : Addr × Addr × Addr) :
    {wd : TDs // ∀ F0 H0, (cnOf (gLaw T i) F0 H0).Ok → US (XL P w K mg base f cc A outer s H E) (cnOf (gLaw T i) F0 H0) (bodyL.getD 14 (.Pass ⟨0, 0, 0, 0⟩)) wd} := by
  have nd : NL.Nodup := sc_law.nd
  exact ⟨_, fun F0 H0 hC => us_for (ui_range1 (ua_cons ue_int ua_nil) h.z_range) (ug_name (i := 14) nd)
      (us_cons ((st_i0 h ng hr hu66 i).2 F0 H0 hC)
      (us_cons ((st_i1 h ng hr hu66 i).2 F0 H0 hC)
      (us_cons ((st_i2 h ng hr hu66 i).2 F0 H0 hC)
      (us_cons ((st_i3 h ng hr hu66 i).2 F0 H0 hC)
      (us_cons ((st_i4 h ng hr hu66 i).2 F0 H0 hC)
      (us_cons ((st_i5 h ng hr hu66 i).2 F0 H0 hC)
      (us_cons ((st_i6 h ng hr hu66 i).2 F0 H0 hC)
      (us_one ((st_i7 h ng hr hu66 i).2 F0 H0 hC)))))))))⟩
@[irreducible] def st_all {P : Program} {w : World} {K : PySem.W.Frag} {mg : Str → Option Value} {base : Heap} {CE B CB CP cc Pt : Addr} {T : List (Addr × Str)} (h : LawX P w K mg base CE B CB CP cc Pt T) {f : Addr} {A : Around} {outer : List Env} {s : Shared} {H : Hp} {E : XK} (ng : NoG (AL f cc A s)) (hr : Room 10 (AL f cc A s)) (hu66 : (AL f cc A s).units + 66 < cLine) (i : Addr × Addr × Addr) :
    {wd : TDs // ∀ F0 H0, (cnOf (gLaw T i) F0 H0).Ok → USs (XL P w K mg base f cc A outer s H E) (cnOf (gLaw T i) F0 H0) ((defBody s_law).drop 1) wd} := by
  have nd : NL.Nodup := sc_law.nd
  exact ⟨_, fun F0 H0 hC => us_cons (us_for (ui_range1 (ua_cons ue_int ua_nil) h.z_range) (ug_name (i := 2) nd)
      (us_cons ((st_0 h ng hr hu66 i).2 F0 H0 hC)
      (us_cons ((st_1 h ng hr hu66 i).2 F0 H0 hC)
      (us_cons ((st_2 h ng hr hu66 i).2 F0 H0 hC)
      (us_cons ((st_3 h ng hr hu66 i).2 F0 H0 hC)
      (us_cons ((st_4 h ng hr hu66 i).2 F0 H0 hC)
      (us_cons ((st_5 h ng hr hu66 i).2 F0 H0 hC)
      (us_cons ((st_6 h ng hr hu66 i).2 F0 H0 hC)
      (us_cons ((st_7 h ng hr hu66 i).2 F0 H0 hC)
      (us_cons ((st_8 h ng hr hu66 i).2 F0 H0 hC)
      (uss_thaw (B := B) (CP := CP) (iw := 4) (ip := 10) (it := 12) (ib := 13) hC (by decide) (by decide) (by decide)
      (ps_9 h ng hr hu66) (st_t10 h ng hr hu66 i).2 (pss_one (ps_ret pe_bl)) (ps_11 h ng hr hu66) (ps_12 h ng hr hu66)
      (us_cons ((st_13 h ng hr hu66 i).2 F0 H0 hC)
      (us_cons ((st_14 h ng hr hu66 i).2 F0 H0 hC)
      (us_cons ((st_15 h ng hr hu66 i).2 F0 H0 hC)
      (us_cons ((st_16 h ng hr hu66 i).2 F0 H0 hC)
      (us_one ((st_17 h ng hr hu66 i).2 F0 H0 hC))))))))))))))))) (us_one (us_ret ue_bl))⟩
end L56
set_option maxHeartbeats 2000000
namespace L56
open PySem PySem.Spec PyProof.Rows L2 HG PU LamX
section
variable {P : Program} {w : World} {K : PySem.W.Frag} {mg : Str → Option Value} {base : Heap} {CE B CB CP cc Pt : Addr} {T : List (Addr × Str)} (h : LawX P w K mg base CE B CB CP cc Pt T) {f : Addr} {A : Around} {outer : List Env} {s : Shared} {H : Hp} {E : XK} (ng : NoG (AL f cc A s)) (hr : Room 10 (AL f cc A s)) (hu66 : (AL f cc A s).units + 66 < cLine) {i : Addr × Addr × Addr}
section
theorem rd_14 {Ed : EndD} {n : Nat} {sc : D} {y2 y3 y5 y6 y8 y9 y11 y12 y13 y14 y15 y16 y17 y18 y19 : S} {W : List Str} {bs : List Br} {ps : List Pi2} (hW : ∀ z ∈ W, letS z = true) (lW : W.length ≤ 8) (up : Up W.length 0 bs) (lb : bs.length ≤ 4) (g : ∀ b ∈ bs, b.2.length ≤ 3 ∧ b.2.all isLet = true) (up2 : Up2 W.length 0 ps) (lp : ps.length ≤ 3) (hn : n < 998000000)
    (q : ∀ (x14 x15 x16 x17 x18 : S) (m : Nat), m ≤ n + 200 → Ed.nx [.d sc, .d (.ref i.1), y2, y3, .d (.tup (W.map .str)), y5, y6, .d (.lst (bs.map itD)), y8, y9, .d (.lst (ps.map piD)), y11, y12, y13, x14, x15, x16, x17, x18, y19] m) :
    (st_14 h (outer := outer) (H := H) (E := E) ng hr hu66 i).1 Ed [.d sc, .d (.ref i.1), y2, y3, .d (.tup (W.map .str)), y5, y6, .d (.lst (bs.map itD)), y8, y9, .d (.lst (ps.map piD)), y11, y12, y13, y14, y15, y16, y17, y18, y19] n := by
  have w1 := all_lets hW
  unfold st_14
  dsimp only
  refine ⟨⟨by decide, by decide⟩, fun j ρ k => k ≤ n + 50 * j ∧ ∃ z14 z15 z16 z17 z18 : S, ρ = [.d sc, .d (.ref i.1), y2, y3, .d (.tup (W.map .str)), y5, y6, .d (.lst (bs.map itD)), y8, y9, .d (.lst (ps.map piD)), y11, y12, y13, z14, z15, z16, z17, z18, y19], ⟨by omega, _, _, _, _, _, rfl⟩, fun j x ρ k hx hp => ?_, fun ρ k hp => ?_⟩
  · obtain ⟨hk, z14, z15, z16, z17, z18, rfl⟩ := hp
    obtain ⟨hj, rfl⟩ := rg_get hx
    dsimp only [uGn, uSeq]
    refine rd_i0 h ng hr hu66 hW lW up lb g (by omega) fun d m hm sm => ?_
    refine rd_i1 h ng hr hu66 lW sm ?_
    rcases put_cases (B := B) (CB := CB) w1 sm with ⟨fr, bs2, e, upx, lbx, gx, pr⟩ | ⟨a, dt, ad, fr, er⟩
    · rw [fr]
      refine rd_i2A h ng hr hu66 hW lW sm e upx lbx gx ?_
      refine rd_i3A h ng hr hu66 hW lW sm e upx lbx gx ?_
      refine rd_i4 h ng hr hu66 hW lW up2 lp (by omega) fun d m2 hm2 sm => ?_
      refine rd_i5 h ng hr hu66 lW sm ?_
      rcases take_cases (B := B) (CP := CP) w1 sm with ⟨fr, ps2, e, upx, lpx, pr⟩ | ⟨a, dt, ad, fr, er⟩
      · rw [fr]
        refine rd_i6A h ng hr hu66 hW lW sm e upx lpx ?_
        refine rd_i7A h ng hr hu66 hW lW sm e upx lpx ?_
        exact ⟨by omega, _, _, _, _, _, rfl⟩
      · rw [fr]
        refine rd_i6B h ng hr hu66 ad ?_
        refine rd_i7B h ng hr hu66 hW lW sm ad er ?_
        exact ⟨by omega, _, _, _, _, _, rfl⟩
    · rw [fr]
      refine rd_i2B h ng hr hu66 ad ?_
      refine rd_i3B h ng hr hu66 hW lW sm ad er ?_
      refine rd_i4 h ng hr hu66 hW lW up2 lp (by omega) fun d m2 hm2 sm => ?_
      refine rd_i5 h ng hr hu66 lW sm ?_
      rcases take_cases (B := B) (CP := CP) w1 sm with ⟨fr, ps2, e, upx, lpx, pr⟩ | ⟨a, dt, ad, fr, er⟩
      · rw [fr]
        refine rd_i6A h ng hr hu66 hW lW sm e upx lpx ?_
        refine rd_i7A h ng hr hu66 hW lW sm e upx lpx ?_
        exact ⟨by omega, _, _, _, _, _, rfl⟩
      · rw [fr]
        refine rd_i6B h ng hr hu66 ad ?_
        refine rd_i7B h ng hr hu66 hW lW sm ad er ?_
        exact ⟨by omega, _, _, _, _, _, rfl⟩
  · obtain ⟨hk, z14, z15, z16, z17, z18, rfl⟩ := hp
    have hk : k ≤ n + 50 * (rgD 0 (4 : Int).toNat).length := hk
    rw [rg_len] at hk
    exact q _ _ _ _ _ _ (by have : (4 : Int).toNat = 4 := rfl
                            omega)
end
end
end L56
set_option maxHeartbeats 2000000
namespace L56
open PySem PySem.Spec PyProof.Rows L2 HG PU LamX
section
variable {P : Program} {w : World} {K : PySem.W.Frag} {mg : Str → Option Value} {base : Heap} {CE B CB CP cc Pt : Addr} {T : List (Addr × Str)} (h : LawX P w K mg base CE B CB CP cc Pt T) {f : Addr} {A : Around} {outer : List Env} {s : Shared} {H : Hp} {E : XK} (ng : NoG (AL f cc A s)) (hr : Room 10 (AL f cc A s)) (hu66 : (AL f cc A s).units + 66 < cLine) {i : Addr × Addr × Addr}
section
theorem rd_all {sc : D} {y2 y3 y4 y5 y6 y7 y8 y9 y10 y11 y12 y13 y14 y15 y16 y17 y18 y19 : S} :
    (st_all h (outer := outer) (H := H) (E := E) ng hr hu66 i).1 lawE [.d sc, .d (.ref i.1), y2, y3, y4, y5, y6, y7, y8, y9, y10, y11, y12, y13, y14, y15, y16, y17, y18, y19] 0 := by
  unfold st_all
  dsimp only [uSeq]
  refine ⟨⟨by decide, by decide⟩, fun j ρ k => k ≤ 1000 * j ∧ ∃ z2 z3 z4 z5 z6 z7 z8 z9 z10 z11 z12 z13 z14 z15 z16 z17 z18 z19 : S, ρ = [.d sc, .d (.ref i.1), z2, z3, z4, z5, z6, z7, z8, z9, z10, z11, z12, z13, z14, z15, z16, z17, z18, z19], ⟨by omega, _, _, _, _, _, _, _, _, _, _, _, _, _, _, _, _, _, _, rfl⟩, fun j x ρ k hx hp => ?_, fun ρ k hp => ?_⟩
  · obtain ⟨hk, z2, z3, z4, z5, z6, z7, z8, z9, z10, z11, z12, z13, z14, z15, z16, z17, z18, z19, rfl⟩ := hp
    obtain ⟨hj, rfl⟩ := rg_get hx
    have hj : j < 5 := hj
    dsimp only [uGn, uSeq]
    refine rd_0 h ng hr hu66 (by omega) fun Ls m1 hm1 l1 l2 l3 => ?_
    refine rd_1 h ng hr hu66 (by omega) l1 l2 l3 fun W m2 hm2 lW hW => ?_
    refine rd_2 h ng hr hu66 (by omega) lW fun gs m3 hm3 lg so hg => ?_
    refine rd_3 h ng hr hu66 (by omega) l1 l2 l3 lg so hg fun bs m4 hm4 lb up g => ?_
    refine rd_4 h ng hr hu66 (by omega) lW fun es m5 hm5 le so2 he => ?_
    refine rd_5 h ng hr hu66 (Ls := Ls) (by omega) le so2 he fun ps lp up2 => ?_
    refine rd_6 h ng hr hu66 hW lW up lb g ?_
    refine rd_7 h ng hr hu66 hW lW up lb g ?_
    refine rd_8 h ng hr hu66 hW lW up2 lp ?_
    refine ⟨W, ps, rfl, rfl, by omega, hW, by omega, up2, by show 12 < 20; decide, by show 13 < 20; decide, ?_⟩
    simp only [fro_cons]
    refine rd_t10 h ng hr hu66 hW lW up2 lp ⟨rfl, ?_⟩
    refine rd_13 h ng hr hu66 hW lW up2 lp ?_
    refine rd_14 h ng hr hu66 hW lW up lb g up2 lp (by omega) fun x14 x15 x16 x17 x18 m6 hm6 => ?_
    refine rd_15 h ng hr hu66 (by omega) hW lW fun d m7 hm7 hb fb => ?_
    refine rd_16 h ng hr hu66 hb fb ?_
    refine rd_17 h ng hr hu66 hb fb ?_
    exact ⟨by omega, _, _, _, _, _, _, _, _, _, _, _, _, _, _, _, _, _, _, rfl⟩
  · rfl
end
end
theorem ok_law2 {P : Program} {w : World} {K : PySem.W.Frag} {mg : Str → Option Value} {base : Heap} {CE B CB CP cc Pt : Addr} {T : List (Addr × Str)} (h : LawX P w K mg base CE B CB CP cc Pt T) : CalleeP P w K mg base CX0 11 "law" ["script"] (PU.sp_law K T) := by
  refine h.D.okP sc_law (fun vs H Q E h => ?_) (fun f A outer s H vs Q E ng hr q => ?_)
  · obtain ⟨l, ns, rfl, _⟩ := h
    rfl
  obtain ⟨l, ns, rfl, hl, len, tabs, q⟩ := q
  have nd := sc_law.nd
  have hu66 : (A.deeper (envOfC "law" (defScope s_law) s.heap.objs.size f (.ref cc))).units + 66 < cLine := by
    have := hr.un
    omega
  refine ⟨_, pss_cons (ps_set (i := 1) nd rfl (.inr rfl) (pe_c h.c_begun hr (pa_cons (pv 0) pa_nil))) (pss_lw (T := T) fun i F0 H0 hC => (st_all h ng hr hu66 i).2 F0 H0 hC), ?_⟩
  exact law_run (by decide) hl len tabs q fun i => rd_all h ng hr hu66
end L56
set_option maxHeartbeats 4000000
namespace HG
open PySem PySem.Spec PyProof.Rows L2 LamX
structure ErrX (K : PySem.W.Frag) (mg : Str → Option Value) (CE : Addr) (x : Str) (C : Addr) : Prop extends ErrC K mg x C where
  is : ExcC K C
  hit : PySem.W.exmOne K (.ref C) (.ref CE) = some true
  own : PySem.W.kitOne K (.ref C) (.ref C) = some true
/-! ## from the head's facts -/
def BindN (x : Str) (st : Stmt) (ps : List Str) : Prop :=
  ∀ (kV doc pm : Value) (an : Option Addr) (cdv ct : Value) (us : List Value), us.length = ps.length →
    bindArgs (PySem.W.fnOf x x (defArgs st) (defBody st) (defScope st) .none kV doc pm an cdv ct) ⟨us, []⟩ = pure (ps.zip us)
section
variable {K : PySem.W.Frag} {h : Heap} {mg : Str → Option Value} {x : Str} {st : Stmt} {ps : List Str} {f : Addr} {oc : Value} {od an : Option Addr}
  {osl : Array (Option Value)} {kV doc pm cdv ct : Value}
theorem def_mk (X : K.In h) (G : h.Ns mainGlobals mg) (b : BindN x st ps) (a : PySem.W.nsIn K mainGlobals x = some (some (.ref f)))
    (l : K.lookup f = some ⟨oc, od, .func (PySem.W.fnOf x x (defArgs st) (defBody st) (defScope st) .none kV doc pm an cdv ct), osl⟩)
    (c : PySem.W.codeIn K cdv x = true) (k : PySem.W.keepIn K (.ref f) = true) : Def K mg x st ps :=
  ⟨f, _, fun_mk l c k, PySem.W.mg_of X G a, (fun_mk l c k).binds b⟩
theorem defC_mk {cc : Addr} (X : K.In h) (G : h.Ns mainGlobals mg) (b : BindN x st ps) (a : PySem.W.nsIn K mainGlobals x = some (some (.ref f)))
    (l : K.lookup f = some ⟨oc, od, .func (PySem.W.fnOf x x (defArgs st) (defBody st) (defScope st) .none kV doc pm an (.ref cc) ct), osl⟩)
    (c : PySem.W.codeIn K (.ref cc) x = true) (k : PySem.W.keepIn K (.ref f) = true) : DefC K mg x st ps cc :=
  ⟨f, oc, od, kV, doc, pm, an, ct, osl, l, c, k, PySem.W.mg_of X G a, (fun_mk l c k).binds b⟩
theorem hit_of {C CE : Addr} (h1 : PySem.W.subIn K (.ref CE) (.type "BaseException") = some true) (h2 : PySem.W.isClsIn K CE = true)
    (h3 : PySem.W.typeIn K (.ref CE) = some (.type "type")) (h4 : PySem.W.subIn K (.ref C) (.ref CE) = some true) : PySem.W.exmOne K (.ref C) (.ref CE) = some true := by
  unfold PySem.W.exmOne PySem.W.kitCls
  rw [h1]
  have e : (PySem.W.clsIn K CE).isSome = true := h2
  simp only [beq_self_eq_true, if_true, e, h3, Bool.true_and, Bool.and_self, h4]
theorem own_of {C : Addr} : PySem.W.kitOne K (.ref C) (.ref C) = some true := by
  unfold PySem.W.kitOne
  rw [if_pos (by simp)]
theorem errX_mk {C CE : Addr} (X : K.In h) (G : h.Ns mainGlobals mg) (a : PySem.W.nsIn K mainGlobals x = some (some (.ref C)))
    (e : PySem.W.excIn K C [.type "ValueError", .type "Exception", .type "BaseException", .type "object"] "ValueError.__new__" = true)
    (k : PySem.W.keepIn K (.ref C) = true) (s : PySem.W.subIn K (.ref C) (.type "BaseException") = some true) (t : PySem.W.typeIn K (.ref C) = some (.type "type"))
    (g1 : PySem.W.findIn K (.ref C) "__getattribute__" = some (some (.builtin "BaseException.__getattribute__"))) (g2 : PySem.W.findIn K (.ref C) "__getattr__" = some none)
    (hd : PySem.W.hasDictIn K C = true) (ha : PySem.W.findIn K (.ref C) "__class__" = some (some (.builtin "object.__class__")))
    (hn : PySem.W.specialIn K (.builtin "object.__class__") "__get__" = some (some (.builtin "getset_descriptor.__get__")))
    (ht : PySem.W.takesIn K (.builtin "object.__class__") = some true) (hm : PySem.W.mroIn K C (.type "object") = some true)
    (h1 : PySem.W.subIn K (.ref CE) (.type "BaseException") = some true) (h2 : PySem.W.isClsIn K CE = true)
    (h3 : PySem.W.typeIn K (.ref CE) = some (.type "type")) (h4 : PySem.W.subIn K (.ref C) (.ref CE) = some true) : ErrX K mg CE x C :=
  { at_ := PySem.W.mg_of X G a, exc := e, keep := k, sub := s, ty := t, is := ⟨g1, g2, s, hd, ha, hn, ht, hm⟩, hit := hit_of h1 h2 h3 h4, own := own_of }
end
def BindQ (x q : Str) (st : Stmt) (ps : List Str) : Prop :=
  ∀ (kV doc pm : Value) (an : Option Addr) (cdv ct : Value) (us : List Value), us.length = ps.length →
    bindArgs (PySem.W.fnOf x q (defArgs st) (defBody st) (defScope st) .none kV doc pm an cdv ct) ⟨us, []⟩ = pure (ps.zip us)
theorem kit_no {K : PySem.W.Frag} {T : String} {C : Addr} (h2 : PySem.W.isClsIn K C = true) (h3 : PySem.W.typeIn K (.ref C) = some (.type "type")) (h4 : PySem.W.subIn K (.type T) (.ref C) = some false) :
    PySem.W.kitOne K (.type T) (.ref C) = some false := by
  unfold PySem.W.kitOne PySem.W.kitCls
  have e : (PySem.W.clsIn K C).isSome = true := h2
  rw [if_neg (show ¬ (Value.type T == Value.ref C) = true by simp)]
  simp only [e, h3, beq_self_eq_true, Bool.and_self, if_true]
  exact h4
end HG
namespace L56
open PySem PySem.Spec PyProof.Rows L2 HG PU LamX
abbrev s_cb : Stmt := inClass (topS 2) 0
abbrev s_cp : Stmt := inClass (topS 3) 0
theorem scS_cb : SupSc (defScope s_cb) "at" := ⟨rfl, rfl, rfl, by decide +kernel, by decide +kernel, rfl, rfl, rfl, rfl, by decide +kernel⟩
theorem bad_cb {P : Program} {w : World} {K : PySem.W.Frag} {mg : Str → Option Value} {base : Heap} {CB fB : Addr} {fd : FuncData} (D : SupI P K "BadBreaks.__init__" (defBody s_cb) (defScope s_cb) CB fB fd) (T : OexC K CB)
    (mS : mg "super" = none) (hf : PySem.W.findIn K (.ref CB) "at" = some none) : FnOk P w K mg base C8.CX0 1 fB fd ["self", "at"] (spS CB "at") :=
  fn_supS (k := 0) D T scS_cb mS hf rfl (by decide +kernel) (by decide +kernel) (fun _ _ _ => rfl) (fun _ _ _ => rfl) (fun _ _ _ => rfl) (fun _ _ _ => rfl)
theorem scS_cp : SupSc (defScope s_cp) "at" := ⟨rfl, rfl, rfl, by decide +kernel, by decide +kernel, rfl, rfl, rfl, rfl, by decide +kernel⟩
theorem bad_cp {P : Program} {w : World} {K : PySem.W.Frag} {mg : Str → Option Value} {base : Heap} {CB fB : Addr} {fd : FuncData} (D : SupI P K "BadPieces.__init__" (defBody s_cp) (defScope s_cp) CB fB fd) (T : OexC K CB)
    (mS : mg "super" = none) (hf : PySem.W.findIn K (.ref CB) "at" = some none) : FnOk P w K mg base C8.CX0 1 fB fd ["self", "at"] (spS CB "at") :=
  fn_supS (k := 0) D T scS_cp mS hf rfl (by decide +kernel) (by decide +kernel) (fun _ _ _ => rfl) (fun _ _ _ => rfl) (fun _ _ _ => rfl) (fun _ _ _ => rfl)
theorem bn_is_number : BindN "is_number" s_is_number ["thing"] := fun _ _ _ _ _ _ us hl => match us, hl with | [_], _ => rfl
theorem bn_is_number_from : BindN "is_number_from" s_is_number_from ["thing", "low", "high"] := fun _ _ _ _ _ _ us hl => match us, hl with | [_, _, _], _ => rfl
theorem bn_is_string_of : BindN "is_string_of" s_is_string_of ["thing", "signs"] := fun _ _ _ _ _ _ us hl => match us, hl with | [_, _], _ => rfl
theorem bn_is_letter : BindN "is_letter" s_is_letter ["thing"] := fun _ _ _ _ _ _ us hl => match us, hl with | [_], _ => rfl
theorem bn_is_list : BindN "is_list" s_is_list ["thing"] := fun _ _ _ _ _ _ us hl => match us, hl with | [_], _ => rfl
theorem bn_is_tuple_of : BindN "is_tuple_of" s_is_tuple_of ["thing", "many"] := fun _ _ _ _ _ _ us hl => match us, hl with | [_, _], _ => rfl
theorem bn_is_pair : BindN "is_pair" s_is_pair ["thing"] := fun _ _ _ _ _ _ us hl => match us, hl with | [_], _ => rfl
theorem bn_is_word : BindN "is_word" s_is_word ["thing"] := fun _ _ _ _ _ _ us hl => match us, hl with | [_], _ => rfl
theorem bn_check_letters : BindN "check_letters" s_check_letters ["word"] := fun _ _ _ _ _ _ us hl => match us, hl with | [_], _ => rfl
theorem bn_put_in : BindN "put_in" s_put_in ["word", "breaks"] := fun _ _ _ _ _ _ us hl => match us, hl with | [_, _], _ => rfl
theorem bn_taken_out : BindN "taken_out" s_taken_out ["word", "pieces"] := fun _ _ _ _ _ _ us hl => match us, hl with | [_, _], _ => rfl
theorem bn_l_begun : BindN "_law_begun" s_l_begun ["script"] := fun _ _ _ _ _ _ us hl => match us, hl with | [_], _ => rfl
theorem bn_l_mixed : BindN "_law_mixed" s_l_mixed ["state"] := fun _ _ _ _ _ _ us hl => match us, hl with | [_], _ => rfl
theorem bn_l_take : BindN "_law_take" s_l_take ["state", "size"] := fun _ _ _ _ _ _ us hl => match us, hl with | [_, _], _ => rfl
theorem bn_l_pick : BindN "_law_pick" s_l_pick ["state", "some"] := fun _ _ _ _ _ _ us hl => match us, hl with | [_, _], _ => rfl
theorem bn_l_letters : BindN "_law_letters" s_l_letters ["state", "many"] := fun _ _ _ _ _ _ us hl => match us, hl with | [_, _], _ => rfl
theorem bn_l_word : BindN "_law_word" s_l_word ["state", "letters", "most"] := fun _ _ _ _ _ _ us hl => match us, hl with | [_, _, _], _ => rfl
theorem bn_l_count : BindN "_law_count" s_l_count ["thing", "least", "most"] := fun _ _ _ _ _ _ us hl => match us, hl with | [_, _, _], _ => rfl
theorem bn_l_is_word : BindN "_law_is_word" s_l_is_word ["thing"] := fun _ _ _ _ _ _ us hl => match us, hl with | [_], _ => rfl
theorem bn_l_put : BindN "_law_put" s_l_put ["word", "breaks"] := fun _ _ _ _ _ _ us hl => match us, hl with | [_, _], _ => rfl
theorem bn_l_left : BindN "_law_left" s_l_left ["word", "pieces"] := fun _ _ _ _ _ _ us hl => match us, hl with | [_, _], _ => rfl
theorem bn_l_first : BindN "_law_first" s_l_first ["word", "things", "is_break"] := fun _ _ _ _ _ _ us hl => match us, hl with | [_, _, _], _ => rfl
theorem bn_l_bent : BindN "_law_bent" s_l_bent ["state", "word", "things", "is_break"] := fun _ _ _ _ _ _ us hl => match us, hl with | [_, _, _, _], _ => rfl
theorem bn_l_told : BindN "_law_told" s_l_told ["work"] := fun _ _ _ _ _ _ us hl => match us, hl with | [_], _ => rfl
theorem bn_law : BindN "law" s_law ["script"] := fun _ _ _ _ _ _ us hl => match us, hl with | [_], _ => rfl
theorem teller_mk {K : PySem.W.Frag} {h : Heap} {mg : Str → Option Value} {g CE B CB CP : Addr} {oc : Value} {od an : Option Addr} {osl : Array (Option Value)} {kV doc pm cdv ct : Value}
    (X : K.In h) (G : h.Ns mainGlobals mg) (a : PySem.W.nsIn K mainGlobals "_law_told" = some (some (.ref g)))
    (l : K.lookup g = some ⟨oc, od, .func (PySem.W.fnOf "_law_told" "_law_told" (defArgs s_l_told) (defBody s_l_told) (defScope s_l_told) .none kV doc pm an cdv ct), osl⟩)
    (c : PySem.W.codeIn K cdv "_law_told" = true) (k : PySem.W.keepIn K (.ref g) = true) (cl : Clss K mg CE B CB CP) : Teller K mg CE B CB CP :=
  { ex := ⟨g, oc, od, kV, doc, pm, an, cdv, ct, osl, l, c, k, PySem.W.mg_of X G a, (fun_mk l c k).binds bn_l_told⟩, cl := cl }
theorem kit_noR {K : PySem.W.Frag} {B C : Addr} (ne : (Value.ref B == Value.ref C) = false) (h2 : PySem.W.isClsIn K C = true) (h3 : PySem.W.typeIn K (.ref C) = some (.type "type")) (h4 : PySem.W.subIn K (.ref B) (.ref C) = some false) :
    PySem.W.kitOne K (.ref B) (.ref C) = some false := by
  unfold PySem.W.kitOne PySem.W.kitCls
  have e : (PySem.W.clsIn K C).isSome = true := h2
  rw [if_neg (show ¬ (Value.ref B == Value.ref C) = true by rw [ne]; exact Bool.false_ne_true)]
  simp only [e, h3, beq_self_eq_true, Bool.and_self, if_true]
  exact h4
section
variable {K : PySem.W.Frag} {h : Heap} {mg : Str → Option Value} {C f CE : Addr}
theorem exc_mk (s : PySem.W.subIn K (.ref C) (.type "BaseException") = some true)
    (g1 : PySem.W.findIn K (.ref C) "__getattribute__" = some (some (.builtin "BaseException.__getattribute__"))) (g2 : PySem.W.findIn K (.ref C) "__getattr__" = some none)
    (hd : PySem.W.hasDictIn K C = true) (ha : PySem.W.findIn K (.ref C) "__class__" = some (some (.builtin "object.__class__")))
    (hn : PySem.W.specialIn K (.builtin "object.__class__") "__get__" = some (some (.builtin "getset_descriptor.__get__")))
    (ht : PySem.W.takesIn K (.builtin "object.__class__") = some true) (hm : PySem.W.mroIn K C (.type "object") = some true) : ExcC K C := ⟨g1, g2, s, hd, ha, hn, ht, hm⟩
theorem constI_mk {x : Str} {i : Int} {t : Tok} (X : K.In h) (G : h.Ns mainGlobals mg) (a : PySem.W.nsIn K mainGlobals x = some (some (.int i t))) : ∃ t, mg x = some (.int i t) := ⟨_, PySem.W.mg_of X G a⟩
theorem constS_mk {x z : Str} {t : Tok} (X : K.In h) (G : h.Ns mainGlobals mg) (a : PySem.W.nsIn K mainGlobals x = some (some (.str z t))) : ∃ t, mg x = some (.str z t) := ⟨_, PySem.W.mg_of X G a⟩
theorem oexC_mk {nm q : Str} {N : Addr} {bs : List Value} {sn : List Str} {sub : List Value} {ab : Bool} {col : Option Bool} {dd : Option Addr} {k0 k1 k2 k3 k5 : Option Value}
    (l : K.lookup C = some (excClassObj nm q C N bs [.ref CE, .type "ValueError", .type "Exception", .type "BaseException", .type "object"] true sn sub ab col dd k0 k1 k2 k3 k5 "ValueError.__new__"))
    (sa : PySem.W.findIn K (.ref C) "__setattr__" = some (some (.builtin "object.__setattr__"))) (exC : PySem.W.subIn K (.ref C) (.type "BaseException") = some true) (tyC : PySem.W.typeIn K (.ref C) = some (.type "type"))
    (kC : PySem.W.keepIn K (.ref C) = true) : OexC K C := ⟨⟨nm, q, N, bs, _, sn, sub, ab, col, dd, k0, k1, k2, k3, k5, l, rfl⟩, sa, exC, tyC, kC⟩
theorem xfC_mk (s : PySem.W.subIn K (.ref C) (.type "BaseException") = some true)
    (g1 : PySem.W.findIn K (.ref C) "__getattribute__" = some (some (.builtin "BaseException.__getattribute__"))) (g2 : PySem.W.findIn K (.ref C) "__getattr__" = some none)
    (hd : PySem.W.hasDictIn K C = true) : XfC K C := ⟨g1, g2, s, hd⟩
abbrev fd_cb_ (kV doc pm : Value) (an : Option Addr) (cda : Addr) (ct : Value) (cc : Addr) : FuncData := PySem.W.ksFn "__init__" "BadBreaks.__init__" (defArgs s_cb) (defBody s_cb) (defScope s_cb) .none kV doc pm an (.ref cda) ct cc
theorem supI_cb {P : Program} {oc : Value} {od : Option Addr} {kV doc pm : Value} {an : Option Addr} {cda cc : Addr} {ct : Value} {osl : Array (Option Value)} {c1 : Value} {d1 : Option Addr} {vs : Array Value} {s1 : Array (Option Value)} {file : Str} {tf : Tok} {c2 : Value} {d2 : Option Addr} {s2 : Array (Option Value)}
    (l : K.lookup f = some ⟨oc, od, .func (fd_cb_ kV doc pm an cda ct cc), osl⟩) (c : PySem.W.codeIn K (.ref cda) "BadBreaks.__init__" = true) (lcd : K.lookup cda = some ⟨c1, d1, .fields vs, s1⟩) (hvs : vs[2]? = some (.str file tf)) (hfile : ((P.main.file : Str) == file) = true)
    (lcc : K.lookup cc = some ⟨c2, d2, .cell (some (.ref C)), s2⟩) (any : PySem.W.nsIn K cStatics "thirdparty.any" = some none) (top : (P.main.scope.names.lookup ("super" : Str)).isSome = false)
    (sup : PySem.W.ks_superIn K C C "__init__" = some (some (.builtin "ValueError.__init__"))) (is : PySem.W.mroIn K C (.ref C) = some true) (ve : PySem.W.subIn K (.ref C) (.type "ValueError") = some true) :
    SupI P K "BadBreaks.__init__" (defBody s_cb) (defScope s_cb) C f (fd_cb_ kV doc pm an cda ct cc) :=
  ⟨⟨oc, od, _, _, kV, doc, pm, an, cda, cc, ct, osl, c1, d1, vs, s1, file, tf, c2, d2, s2, _, rfl, l, c, lcd, hvs, hfile, lcc, rfl, rfl⟩, any, top, sup, is, ve⟩
theorem bB_cb {kV doc pm : Value} {an : Option Addr} {cda : Addr} {ct : Value} {cc : Addr} : Binds K (fd_cb_ kV doc pm an cda ct cc) ["self", "at"] [] := .all fun us hl => match us, hl with | [_, _], _ => rfl
abbrev fd_cp_ (kV doc pm : Value) (an : Option Addr) (cda : Addr) (ct : Value) (cc : Addr) : FuncData := PySem.W.ksFn "__init__" "BadPieces.__init__" (defArgs s_cp) (defBody s_cp) (defScope s_cp) .none kV doc pm an (.ref cda) ct cc
theorem supI_cp {P : Program} {oc : Value} {od : Option Addr} {kV doc pm : Value} {an : Option Addr} {cda cc : Addr} {ct : Value} {osl : Array (Option Value)} {c1 : Value} {d1 : Option Addr} {vs : Array Value} {s1 : Array (Option Value)} {file : Str} {tf : Tok} {c2 : Value} {d2 : Option Addr} {s2 : Array (Option Value)}
    (l : K.lookup f = some ⟨oc, od, .func (fd_cp_ kV doc pm an cda ct cc), osl⟩) (c : PySem.W.codeIn K (.ref cda) "BadPieces.__init__" = true) (lcd : K.lookup cda = some ⟨c1, d1, .fields vs, s1⟩) (hvs : vs[2]? = some (.str file tf)) (hfile : ((P.main.file : Str) == file) = true)
    (lcc : K.lookup cc = some ⟨c2, d2, .cell (some (.ref C)), s2⟩) (any : PySem.W.nsIn K cStatics "thirdparty.any" = some none) (top : (P.main.scope.names.lookup ("super" : Str)).isSome = false)
    (sup : PySem.W.ks_superIn K C C "__init__" = some (some (.builtin "ValueError.__init__"))) (is : PySem.W.mroIn K C (.ref C) = some true) (ve : PySem.W.subIn K (.ref C) (.type "ValueError") = some true) :
    SupI P K "BadPieces.__init__" (defBody s_cp) (defScope s_cp) C f (fd_cp_ kV doc pm an cda ct cc) :=
  ⟨⟨oc, od, _, _, kV, doc, pm, an, cda, cc, ct, osl, c1, d1, vs, s1, file, tf, c2, d2, s2, _, rfl, l, c, lcd, hvs, hfile, lcc, rfl, rfl⟩, any, top, sup, is, ve⟩
theorem bB_cp {kV doc pm : Value} {an : Option Addr} {cda : Addr} {ct : Value} {cc : Addr} : Binds K (fd_cp_ kV doc pm an cda ct cc) ["self", "at"] [] := .all fun us hl => match us, hl with | [_, _], _ => rfl
end
theorem all_mk {l : PySem.W.OpenLaw} {w : World} {K : PySem.W.Frag} {mg : Str → Option Value} {h : Heap} {fa cL tL CE B CB CP fCB fCP : Addr} {fdCB fdCP : FuncData} (hfa : mg "law" = some (.ref fa))
    (DL : DefC K mg "law" s_law ["script"] cL) (G : Teller K mg CE B CB CP) (eB : ErrX K mg CE "BadWord" B)
    (D_is_number : Def K mg "is_number" s_is_number ["thing"])
    (D_is_number_from : Def K mg "is_number_from" s_is_number_from ["thing", "low", "high"])
    (D_is_string_of : Def K mg "is_string_of" s_is_string_of ["thing", "signs"])
    (D_is_letter : Def K mg "is_letter" s_is_letter ["thing"])
    (D_is_list : Def K mg "is_list" s_is_list ["thing"])
    (D_is_tuple_of : Def K mg "is_tuple_of" s_is_tuple_of ["thing", "many"])
    (D_is_pair : Def K mg "is_pair" s_is_pair ["thing"])
    (D_is_word : Def K mg "is_word" s_is_word ["thing"])
    (D_check_letters : Def K mg "check_letters" s_check_letters ["word"])
    (D_put_in : Def K mg "put_in" s_put_in ["word", "breaks"])
    (D_taken_out : Def K mg "taken_out" s_taken_out ["word", "pieces"])
    (D_l_begun : Def K mg "_law_begun" s_l_begun ["script"])
    (D_l_mixed : Def K mg "_law_mixed" s_l_mixed ["state"])
    (D_l_take : Def K mg "_law_take" s_l_take ["state", "size"])
    (D_l_pick : Def K mg "_law_pick" s_l_pick ["state", "some"])
    (D_l_letters : Def K mg "_law_letters" s_l_letters ["state", "many"])
    (D_l_word : Def K mg "_law_word" s_l_word ["state", "letters", "most"])
    (D_l_count : Def K mg "_law_count" s_l_count ["thing", "least", "most"])
    (D_l_is_word : Def K mg "_law_is_word" s_l_is_word ["thing"])
    (D_l_put : Def K mg "_law_put" s_l_put ["word", "breaks"])
    (D_l_left : Def K mg "_law_left" s_l_left ["word", "pieces"])
    (D_l_first : Def K mg "_law_first" s_l_first ["word", "things", "is_break"])
    (D_l_bent : Def K mg "_law_bent" s_l_bent ["state", "word", "things", "is_break"])
    (DCB : SupI l.prog K "BadBreaks.__init__" (defBody s_cb) (defScope s_cb) CB fCB fdCB) (TCB : OexC K CB) (iCB : PySem.W.findIn K (.ref CB) "__init__" = some (some (.ref fCB))) (tCB : PySem.W.typeIn K (.ref fCB) = some (.type "function")) (bCB : Binds K fdCB ["self", "at"] [])
    (DCP : SupI l.prog K "BadPieces.__init__" (defBody s_cp) (defScope s_cp) CP fCP fdCP) (TCP : OexC K CP) (iCP : PySem.W.findIn K (.ref CP) "__init__" = some (some (.ref fCP))) (tCP : PySem.W.typeIn K (.ref fCP) = some (.type "function")) (bCP : Binds K fdCP ["self", "at"] [])
    (g_LONGEST_SIGNS : ∃ t, mg "LONGEST_SIGNS" = some (.int 12 t)) (g_LETTER_SIGNS : ∃ t, mg "LETTER_SIGNS" = some (.str "ABCDEFGHIJKLMNOPQRSTUVWXYZabcdefghijklmnopqrstuvwxyz0123456789." t))
    (z_isinstance : mg "isinstance" = none) (z_int : mg "int" = none) (z_bool : mg "bool" = none) (z_str : mg "str" = none) (z_tuple : mg "tuple" = none) (z_len : mg "len" = none) (z_abs : mg "abs" = none) (z_range : mg "range" = none) (z_repr : mg "repr" = none) (z_list : mg "list" = none) (z_sorted : mg "sorted" = none) (z_enumerate : mg "enumerate" = none) (z_dict : mg "dict" = none) (z_super : mg "super" = none)
    (t1 : ∀ p ∈ [(cL, tL)], h.get? p.2 = some emptyTab) (t2 : ∀ p ∈ [(cL, tL)], K.lookup p.2 = none)
    (t3 : ∀ p ∈ [(cL, tL)], PySem.W.CodeHd h p.1 p.2) : LawP l w K 11 63 "script" mg fa h := by
  obtain ⟨f, oc, od, kV, doc, pm, an, ct, osl, lk, cd, kp, m, b⟩ := id DL.ex
  have e := hfa.symm.trans m
  cases e
  refine ⟨PySem.W.fnOf "law" "law" (defArgs s_law) (defBody s_law) (defScope s_law) .none kV doc pm an (.ref cL) ct, [(cL, tL)], PU.sp_law K [(tL, qL)], t1, t2, t3, fun s u => ?_, fun H a ns len _ ht hl => ⟨a, ns, rfl, hl, len, ?_, fun _ => rfl⟩, fun base KB GB TB => ?_⟩
  · exact .of_eq rfl
  · intro p hp
    rcases List.mem_cons.mp hp with rfl | hp
    · exact TabS.nil (ht (cL, tL) List.mem_cons_self)
    · cases hp
  have TL := TB (cL, tL) List.mem_cons_self
  have mL : (tL, qL) ∈ [(tL, qL)] := List.mem_cons_self
  have uL : ∀ p ∈ [(tL, qL)], p.1 = tL → p.2 = qL := by
    intro p hp e
    rcases List.mem_cons.mp hp with rfl | hp
    · rfl
    · cases hp
  have e_BadBreaks : ErrS l.prog w K mg base "BadBreaks" "at" "at" CB := ⟨⟨fCB, fdCB, bad_cb DCB TCB z_super G.cl.fCB, iCB, tCB, bCB⟩, TCB, G.cl.mCB⟩
  have e_BadPieces : ErrS l.prog w K mg base "BadPieces" "at" "at" CP := ⟨⟨fCP, fdCP, bad_cp DCP TCP z_super G.cl.fCP, iCP, tCP, bCP⟩, TCP, G.cl.mCP⟩
  have e_BadWord : ErrC K mg "BadWord" B := eB.toErrC
  have c_mixed := ok_mixed (P := l.prog) (w := w) (base := base) D_l_mixed z_int
  have c_take0 := ok_take D_l_take z_int c_mixed
  have c__law_take := cal_take c_take0
  have c_begun := ok_begun (P := l.prog) (w := w) (base := base) D_l_begun z_abs z_int
  have c_is_number := ok_is_number (P := l.prog) (w := w) (base := base) D_is_number z_bool z_int z_isinstance
  have c_is_number_from := ok_is_number_from (P := l.prog) (w := w) (base := base) D_is_number_from c_is_number
  have c_is_string_of := ok_is_string_of (P := l.prog) (w := w) (base := base) D_is_string_of z_isinstance z_len z_str g_LONGEST_SIGNS
  have c_is_letter := ok_is_letter (P := l.prog) (w := w) (base := base) D_is_letter g_LETTER_SIGNS c_is_string_of
  have c_is_list := ok_is_list (P := l.prog) (w := w) (base := base) D_is_list z_isinstance z_list z_tuple
  have c_is_tuple_of := ok_is_tuple_of (P := l.prog) (w := w) (base := base) D_is_tuple_of z_isinstance z_len z_tuple
  have c_is_pair := ok_is_pair (P := l.prog) (w := w) (base := base) D_is_pair c_is_number c_is_tuple_of
  have c_is_word := ok_is_word (P := l.prog) (w := w) (base := base) D_is_word z_isinstance z_tuple c_is_letter
  have c_check_letters := ok_check_letters (P := l.prog) (w := w) (base := base) D_check_letters c_is_word e_BadWord
  have c_put_in := ok_put_in (P := l.prog) (w := w) (base := base) D_put_in z_enumerate z_len (cal_up c_check_letters (by decide)) c_is_list c_is_number_from c_is_tuple_of c_is_word e_BadBreaks
  have c_taken_out := ok_taken_out (P := l.prog) (w := w) (base := base) D_taken_out z_enumerate z_len (cal_up c_check_letters (by decide)) c_is_list c_is_pair e_BadPieces
  have c__law_pick := ok_l_pick (P := l.prog) (w := w) (base := base) D_l_pick z_len c__law_take
  have c__law_letters := ok_l_letters (P := l.prog) (w := w) (base := base) D_l_letters z_range z_sorted c__law_pick c__law_take
  have c__law_word := ok_l_word (P := l.prog) (w := w) (base := base) D_l_word z_range z_tuple c__law_pick c__law_take
  have c__law_count := ok_l_count (P := l.prog) (w := w) (base := base) D_l_count z_bool z_int z_isinstance
  have c__law_is_word := ok_l_is_word (P := l.prog) (w := w) (base := base) D_l_is_word z_isinstance z_len z_str z_tuple
  have c__law_put := ok_l_put (P := l.prog) (w := w) (base := base) D_l_put z_len z_range
  have c__law_left := ok_l_left (P := l.prog) (w := w) (base := base) D_l_left z_len z_list z_range z_tuple
  have c__law_first := ok_l_first (P := l.prog) (w := w) (base := base) D_l_first z_enumerate z_isinstance z_len z_list z_tuple c__law_count c__law_is_word
  have c__law_bent := ok_l_bent (P := l.prog) (w := w) (base := base) D_l_bent z_dict z_enumerate z_len z_tuple c__law_pick c__law_take
  have kN := K56.ok_isnum (P := l.prog) (w := w) (base := base) D_is_number z_isinstance z_int z_bool
  have cst : K56.Consts mg := ⟨g_LETTER_SIGNS, g_LONGEST_SIGNS⟩
  have kS := K56.ok_string (P := l.prog) (w := w) (base := base) D_is_string_of cst z_isinstance z_str z_len
  have kL := K56.ok_letter (P := l.prog) (w := w) (base := base) D_is_letter cst kS
  have kI := K56.ok_islist (P := l.prog) (w := w) (base := base) D_is_list z_isinstance z_list z_tuple
  have kT := K56.ok_tupN (P := l.prog) (w := w) (base := base) D_is_tuple_of z_isinstance z_tuple z_len
  have kW := K56.ok_isword (P := l.prog) (w := w) (base := base) D_is_word z_isinstance z_tuple kL
  have kC := K56.ok_ckletters (P := l.prog) (w := w) (base := base) D_check_letters e_BadWord kW
  have kP := K56.ok_ispair (P := l.prog) (w := w) (base := base) D_is_pair kT kN
  have c_out := K56.ok_takenout (P := l.prog) (w := w) (base := base) D_taken_out e_BadPieces z_len z_enumerate kC kI kP
  have c_law := ok_law2 (P := l.prog) (w := w) (base := base) { D := DL, G := G, TB := TL, hm := mL, hu_ := uL, d_put_in := D_put_in, d_taken_out := D_taken_out, z_isinstance := z_isinstance, z_len := z_len, z_range := z_range, z_repr := z_repr, z_list := z_list, z_sorted := z_sorted, z_tuple := z_tuple, c_begun := c_begun, c__law_take := c__law_take, c__law_pick := c__law_pick, c__law_letters := c__law_letters, c__law_word := c__law_word, c__law_put := c__law_put, c__law_left := c__law_left, c__law_first := c__law_first, c__law_bent := c__law_bent, c_out := c_out, c_put_in := c_put_in, c_taken_out := c_taken_out }
  obtain ⟨f2, fd2, F2, m2, _, _, oc2, od2, osl2, at2⟩ := c_law.ex
  rw [m] at m2
  cases m2
  rw [lk] at at2
  cases at2
  exact F2
end L56
open PySem PySem.W PyProof.Rows
set_option maxHeartbeats 0 in
theorem PySem.Challenge.cw_hitclocks_k56_words_put_in_and_taken_out_holds : PySem.Challenge.rw_hitclocks_k56_words_put_in_and_taken_out.Holds := by
  w_on; o_law; k_head; (case hw => w_witness2)
  k_fill
  refine HG.walk_ofP (l := PySem.Challenge.rw_hitclocks_k56_words_put_in_and_taken_out) (n := 63) (k := 11) (x := "script") rfl (by decide) rfl ⟨rfl, by decide, by decide⟩ (fun w h Y => PySem.W.km_in_of Y) ?F
  case F =>
    intro w mg fa h Y KX G hmg
    have tabs := PySem.W.km_tabs_of Y
    refine' L56.all_mk (tL := 241) hmg ?xDL ?xG ?xeB ?xD_is_number ?xD_is_number_from ?xD_is_string_of ?xD_is_letter ?xD_is_list ?xD_is_tuple_of ?xD_is_pair ?xD_is_word ?xD_check_letters ?xD_put_in ?xD_taken_out ?xD_l_begun ?xD_l_mixed ?xD_l_take ?xD_l_pick ?xD_l_letters ?xD_l_word ?xD_l_count ?xD_l_is_word ?xD_l_put ?xD_l_left ?xD_l_first ?xD_l_bent ?xDCB ?xTCB ?xiCB ?xtCB ?xbCB ?xDCP ?xTCP ?xiCP ?xtCP ?xbCP ?xgLo ?xgLe ?xz0 ?xz1 ?xz2 ?xz3 ?xz4 ?xz5 ?xz6 ?xz7 ?xz8 ?xz9 ?xz10 ?xz11 ?xz12 ?xz13 ?xt1 ?xt2 ?xt3
    case xDL =>
      refine' HG.defC_mk KX G L56.bn_law ?a ?l ?c ?k; (case a => k_is); (case l => k_is); (case c => k_is); (case k => k_is)
    case xG =>
      refine' L56.teller_mk KX G ?a ?l ?c ?k ?cl; (case a => k_is); (case l => k_is); (case c => k_is); (case k => k_is)
      case cl =>
        refine' ⟨?yce, ?ymB, ?ymCB, ?ymCP, ?yisB, ?yisCB, ?yisCP, ?yhB, ?yhCB, ?yhCP, ?yb_cb, ?yb_cp, ?ycb_b, ?ycb_cp, ?ycp_b, ?ycp_cb, ?yxCB, ?yxCP, ?yfCB, ?yfCP⟩
        case yce =>
          refine' PySem.W.mg_of KX G ?zq; (case zq => k_is)
        case ymB =>
          refine' PySem.W.mg_of KX G ?zq; (case zq => k_is)
        case ymCB =>
          refine' PySem.W.mg_of KX G ?zq; (case zq => k_is)
        case ymCP =>
          refine' PySem.W.mg_of KX G ?zq; (case zq => k_is)
        case yisB =>
          refine' L56.exc_mk ?s ?g1 ?g2 ?hd ?ha ?hn ?ht ?hm; (case s => k_is); (case g1 => k_is); (case g2 => k_is); (case hd => k_is); (case ha => k_is); (case hn => k_is); (case ht => k_is); (case hm => k_is)
        case yisCB =>
          refine' L56.exc_mk ?s ?g1 ?g2 ?hd ?ha ?hn ?ht ?hm; (case s => k_is); (case g1 => k_is); (case g2 => k_is); (case hd => k_is); (case ha => k_is); (case hn => k_is); (case ht => k_is); (case hm => k_is)
        case yisCP =>
          refine' L56.exc_mk ?s ?g1 ?g2 ?hd ?ha ?hn ?ht ?hm; (case s => k_is); (case g1 => k_is); (case g2 => k_is); (case hd => k_is); (case ha => k_is); (case hn => k_is); (case ht => k_is); (case hm => k_is)
        case yhB =>
          refine' HG.hit_of ?h1 ?h2 ?h3 ?h4; (case h1 => k_is); (case h2 => k_is); (case h3 => k_is); (case h4 => k_is)
        case yhCB =>
          refine' HG.hit_of ?h1 ?h2 ?h3 ?h4; (case h1 => k_is); (case h2 => k_is); (case h3 => k_is); (case h4 => k_is)
        case yhCP =>
          refine' HG.hit_of ?h1 ?h2 ?h3 ?h4; (case h1 => k_is); (case h2 => k_is); (case h3 => k_is); (case h4 => k_is)
        case yb_cb =>
          refine' L56.kit_noR ?ne ?h2 ?h3 ?h4; (case ne => rfl); (case h2 => k_is); (case h3 => k_is); (case h4 => k_is)
        case yb_cp =>
          refine' L56.kit_noR ?ne ?h2 ?h3 ?h4; (case ne => rfl); (case h2 => k_is); (case h3 => k_is); (case h4 => k_is)
        case ycb_b =>
          refine' L56.kit_noR ?ne ?h2 ?h3 ?h4; (case ne => rfl); (case h2 => k_is); (case h3 => k_is); (case h4 => k_is)
        case ycb_cp =>
          refine' L56.kit_noR ?ne ?h2 ?h3 ?h4; (case ne => rfl); (case h2 => k_is); (case h3 => k_is); (case h4 => k_is)
        case ycp_b =>
          refine' L56.kit_noR ?ne ?h2 ?h3 ?h4; (case ne => rfl); (case h2 => k_is); (case h3 => k_is); (case h4 => k_is)
        case ycp_cb =>
          refine' L56.kit_noR ?ne ?h2 ?h3 ?h4; (case ne => rfl); (case h2 => k_is); (case h3 => k_is); (case h4 => k_is)
        case yxCB =>
          refine' L56.xfC_mk ?s ?g1 ?g2 ?hd; (case s => k_is); (case g1 => k_is); (case g2 => k_is); (case hd => k_is)
        case yxCP =>
          refine' L56.xfC_mk ?s ?g1 ?g2 ?hd; (case s => k_is); (case g1 => k_is); (case g2 => k_is); (case hd => k_is)
        case yfCB =>
          k_is
        case yfCP =>
          k_is
    case xeB =>
      refine' HG.errX_mk KX G ?a ?e ?k ?s ?t ?g1 ?g2 ?hd ?ha ?hn ?ht ?hm ?h1 ?h2 ?h3 ?h4; (case a => k_is); (case e => k_exc); (case k => k_is); (case s => k_is); (case t => k_is); (case g1 => k_is); (case g2 => k_is); (case hd => k_is); (case ha => k_is); (case hn => k_is); (case ht => k_is); (case hm => k_is); (case h1 => k_is); (case h2 => k_is); (case h3 => k_is); (case h4 => k_is)
    case xD_is_number =>
      refine' HG.def_mk KX G L56.bn_is_number ?a ?l ?c ?k; (case a => k_is); (case l => k_is); (case c => k_is); (case k => k_is)
    case xD_is_number_from =>
      refine' HG.def_mk KX G L56.bn_is_number_from ?a ?l ?c ?k; (case a => k_is); (case l => k_is); (case c => k_is); (case k => k_is)
    case xD_is_string_of =>
      refine' HG.def_mk KX G L56.bn_is_string_of ?a ?l ?c ?k; (case a => k_is); (case l => k_is); (case c => k_is); (case k => k_is)
    case xD_is_letter =>
      refine' HG.def_mk KX G L56.bn_is_letter ?a ?l ?c ?k; (case a => k_is); (case l => k_is); (case c => k_is); (case k => k_is)
    case xD_is_list =>
      refine' HG.def_mk KX G L56.bn_is_list ?a ?l ?c ?k; (case a => k_is); (case l => k_is); (case c => k_is); (case k => k_is)
    case xD_is_tuple_of =>
      refine' HG.def_mk KX G L56.bn_is_tuple_of ?a ?l ?c ?k; (case a => k_is); (case l => k_is); (case c => k_is); (case k => k_is)
    case xD_is_pair =>
      refine' HG.def_mk KX G L56.bn_is_pair ?a ?l ?c ?k; (case a => k_is); (case l => k_is); (case c => k_is); (case k => k_is)
    case xD_is_word =>
      refine' HG.def_mk KX G L56.bn_is_word ?a ?l ?c ?k; (case a => k_is); (case l => k_is); (case c => k_is); (case k => k_is)
    case xD_check_letters =>
      refine' HG.def_mk KX G L56.bn_check_letters ?a ?l ?c ?k; (case a => k_is); (case l => k_is); (case c => k_is); (case k => k_is)
    case xD_put_in =>
      refine' HG.def_mk KX G L56.bn_put_in ?a ?l ?c ?k; (case a => k_is); (case l => k_is); (case c => k_is); (case k => k_is)
    case xD_taken_out =>
      refine' HG.def_mk KX G L56.bn_taken_out ?a ?l ?c ?k; (case a => k_is); (case l => k_is); (case c => k_is); (case k => k_is)
    case xD_l_begun =>
      refine' HG.def_mk KX G L56.bn_l_begun ?a ?l ?c ?k; (case a => k_is); (case l => k_is); (case c => k_is); (case k => k_is)
    case xD_l_mixed =>
      refine' HG.def_mk KX G L56.bn_l_mixed ?a ?l ?c ?k; (case a => k_is); (case l => k_is); (case c => k_is); (case k => k_is)
    case xD_l_take =>
      refine' HG.def_mk KX G L56.bn_l_take ?a ?l ?c ?k; (case a => k_is); (case l => k_is); (case c => k_is); (case k => k_is)
    case xD_l_pick =>
      refine' HG.def_mk KX G L56.bn_l_pick ?a ?l ?c ?k; (case a => k_is); (case l => k_is); (case c => k_is); (case k => k_is)
    case xD_l_letters =>
      refine' HG.def_mk KX G L56.bn_l_letters ?a ?l ?c ?k; (case a => k_is); (case l => k_is); (case c => k_is); (case k => k_is)
    case xD_l_word =>
      refine' HG.def_mk KX G L56.bn_l_word ?a ?l ?c ?k; (case a => k_is); (case l => k_is); (case c => k_is); (case k => k_is)
    case xD_l_count =>
      refine' HG.def_mk KX G L56.bn_l_count ?a ?l ?c ?k; (case a => k_is); (case l => k_is); (case c => k_is); (case k => k_is)
    case xD_l_is_word =>
      refine' HG.def_mk KX G L56.bn_l_is_word ?a ?l ?c ?k; (case a => k_is); (case l => k_is); (case c => k_is); (case k => k_is)
    case xD_l_put =>
      refine' HG.def_mk KX G L56.bn_l_put ?a ?l ?c ?k; (case a => k_is); (case l => k_is); (case c => k_is); (case k => k_is)
    case xD_l_left =>
      refine' HG.def_mk KX G L56.bn_l_left ?a ?l ?c ?k; (case a => k_is); (case l => k_is); (case c => k_is); (case k => k_is)
    case xD_l_first =>
      refine' HG.def_mk KX G L56.bn_l_first ?a ?l ?c ?k; (case a => k_is); (case l => k_is); (case c => k_is); (case k => k_is)
    case xD_l_bent =>
      refine' HG.def_mk KX G L56.bn_l_bent ?a ?l ?c ?k; (case a => k_is); (case l => k_is); (case c => k_is); (case k => k_is)
    case xiCB =>
      k_is
    case xDCB =>
      refine' L56.supI_cb ?l ?c ?lcd ?hvs ?hfile ?lcc ?any ?top ?sup ?is ?ve; (case l => k_is); (case c => k_is); (case lcd => k_is); (case hvs => rfl); (case hfile => kernel_rfl); (case lcc => k_is); (case any => k_is); (case top => kernel_rfl); (case sup => kernel_rfl); (case is => k_is); (case ve => k_is)
    case xTCB =>
      refine' L56.oexC_mk ?l ?sa ?exC ?tyC ?kC; (case l => k_is); (case sa => k_is); (case exC => k_is); (case tyC => k_is); (case kC => k_is)
    case xtCB =>
      k_is
    case xbCB =>
      exact L56.bB_cb
    case xiCP =>
      k_is
    case xDCP =>
      refine' L56.supI_cp ?l ?c ?lcd ?hvs ?hfile ?lcc ?any ?top ?sup ?is ?ve; (case l => k_is); (case c => k_is); (case lcd => k_is); (case hvs => rfl); (case hfile => kernel_rfl); (case lcc => k_is); (case any => k_is); (case top => kernel_rfl); (case sup => kernel_rfl); (case is => k_is); (case ve => k_is)
    case xTCP =>
      refine' L56.oexC_mk ?l ?sa ?exC ?tyC ?kC; (case l => k_is); (case sa => k_is); (case exC => k_is); (case tyC => k_is); (case kC => k_is)
    case xtCP =>
      k_is
    case xbCP =>
      exact L56.bB_cp
    case xgLo =>
      refine' L56.constI_mk KX G ?zq; (case zq => k_is)
    case xgLe =>
      refine' L56.constS_mk KX G ?zq; (case zq => k_is)
    case xz0 =>
      refine' PySem.W.mg_none_of KX G ?a; (case a => k_is)
    case xz1 =>
      refine' PySem.W.mg_none_of KX G ?a; (case a => k_is)
    case xz2 =>
      refine' PySem.W.mg_none_of KX G ?a; (case a => k_is)
    case xz3 =>
      refine' PySem.W.mg_none_of KX G ?a; (case a => k_is)
    case xz4 =>
      refine' PySem.W.mg_none_of KX G ?a; (case a => k_is)
    case xz5 =>
      refine' PySem.W.mg_none_of KX G ?a; (case a => k_is)
    case xz6 =>
      refine' PySem.W.mg_none_of KX G ?a; (case a => k_is)
    case xz7 =>
      refine' PySem.W.mg_none_of KX G ?a; (case a => k_is)
    case xz8 =>
      refine' PySem.W.mg_none_of KX G ?a; (case a => k_is)
    case xz9 =>
      refine' PySem.W.mg_none_of KX G ?a; (case a => k_is)
    case xz10 =>
      refine' PySem.W.mg_none_of KX G ?a; (case a => k_is)
    case xz11 =>
      refine' PySem.W.mg_none_of KX G ?a; (case a => k_is)
    case xz12 =>
      refine' PySem.W.mg_none_of KX G ?a; (case a => k_is)
    case xz13 =>
      refine' PySem.W.mg_none_of KX G ?a; (case a => k_is)
    case xt1 =>
      intro p hp
      rcases List.mem_cons.mp hp with rfl | hp
      · exact tabs _ (by k_mem)
      · cases hp
    case xt2 =>
      intro p hp
      rcases List.mem_cons.mp hp with rfl | hp
      · kernel_rfl
      · cases hp
    case xt3 =>
      intro p hp
      rcases List.mem_cons.mp hp with rfl | hp
      · exact PySem.W.codeHd_of_K KX (by kernel_rfl)
      · cases hp
