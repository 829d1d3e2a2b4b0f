import PyProof.Rows.All
import Wide.All
import OpenK.AllK
import Wide.FinOn
import KE.KStateDown
import HandS.ForMost
import HandS.IsInst
import HandS.FStr
import HandS.Star
import HandS.Style
import HandS.Codes
import HandS.Walk
import HandS.Defaults
import HandS.MakeKw
import HandS.SlotsOwn
import HandS.HeadEnd
import HandS.HeadHook1
import HandS.HeadHook2
import HandS.Head0
import HandS.Head1
import HandS.Head2
import HandS.Exc
import HandS.TryMany
import KE.KTryMore
import HandS.ExcInit
import HandS.ExcField
import HandS.Lambda
import HandS.EndTab
import HandS.HeadWalk
import HandS.HeadHook4
import KE.KExcInit
import HandS.HeadHook3
import HandS.More
import HandS.NoneIn
import Open.Seg
import Open.FastRun
import Wide.Once
import HandS.MakeKwOnly
import HandS.TupAny
import PyProof.IsInstance
import PyProof.MeetsIn
import KE.KUnpackStar
import HandS.ExcValue
import KE.KUnpack
import HandS.SortKw
import KE.DataMinMax
import HandS.Iter
import HandS.TryOnly
import KE.GoesEnum
import KE.GoesMore
import HandS.Text
import PyProof.StrLawsAffix
import KE.IntTextLaws
import HandS.RaiseMore
import HandS.StrMore
import HandS.CallLocal
import PySem.Challenge.RW_tidewaiter_k56_webs_written_and_read
set_option Elab.async false
set_option linter.all false
set_option maxRecDepth 100000
set_option maxHeartbeats 4000000
/-! rules of our own over the layer: a def's promise out of its place in the top (the promises themselves are C8's), methods called with keywords, len and repr of an own instance -/
namespace Tw
open PySem PySem.Spec PyProof.Rows L2
section
variable (P : Program) (w : World) (K : PySem.W.Frag) (mg : Str → Option Value) (base : Heap)
/-- the library's promises of a def and of a method, where every parameter is handed in -/
abbrev Cal (k : Nat) (x : Str) (sp : Sp) : Prop := C8.Cal P w K mg base k x sp []
abbrev Met (k : Nat) (C : Addr) (m : Str) (sp : Sp) : Prop := C8.Met P w K mg base k C m sp []
abbrev Mak (k : Nat) (x : Str) (C : Addr) (sp : Sp) (dvs : List V) : Prop := C8.Mak P w K mg base k x C sp dvs
/-- what is owed for a body: it can be read, and under the promise's premise its reading does what the promise tells -/
abbrev BodyOk (k : Nat) (N : List Str) (qual : Str) (body : List Stmt) (scope : Scope) (f : Addr) (sp : Sp) : Prop :=
  ∀ (cdv : Value) (A : Around) (outer : List Env) (s : Shared) (H : Hp) (vs : List V) (Q : VK) (E : XK), Room k (A.deeper (envOfC qual scope s.heap.objs.size f cdv)) → sp vs H Q E →
      ∃ t, PSs (cxOf CX0 P w K mg base N qual scope f cdv A outer s H E).nox body t ∧ t { nx := fun _ H' => Q .non H', rt := Q } (start N vs) H
/-- a method of C for n positional values (self among them) and the keywords ks; gV puts them into the parameters' order -/
structure MetG (CX : CXT) (k : Nat) (C : Addr) (m : Str) (sp : Sp) (n : Nat) (ks : List Str) (gV : List V → List V → List V) : Prop where
  ex : ∃ (f : Addr) (fd : FuncData) (ps : List Str) (g : List Value → List Value → List Value), Cls K C ∧ Meth K C m f ∧ FnOk P w K mg base CX k f fd ps sp ∧ KBn K fd ps n ks g gV
abbrev MetN (k : Nat) (C : Addr) (m : Str) (sp : Sp) (n : Nat) (ks : List Str) : Prop := MetG P w K mg base CX0 k C m sp n ks (fun us ws => us ++ ws)
end
section
variable {P : Program} {w : World} {K : PySem.W.Frag} {mg : Str → Option Value} {base : Heap} {x qual : Str} {C f : Addr} {params : Arguments} {body : List Stmt} {scope : Scope} {dvs : List V} {kws : List (Str × V)} {fd : FuncData} {N ps ks : List Str} {k n : Nat} {sp : Sp}
theorem fnok_of (F : FunD K x qual params body scope dvs kws f fd) (S : FnScope N ps scope) (len : ∀ vs H Q E, sp vs H Q E → vs.length = ps.length) (owed : BodyOk P w K mg base k N qual body scope f sp) : FnOk P w K mg base CX0 (k + 1) f fd ps sp :=
  F.ok S len fun cdv A outer s H vs Q E room h => (owed cdv A outer s H vs Q E room h).imp fun _ p => ⟨p.1.nox, p.2⟩
theorem cal_of (F : FunD K x x params body scope [] [] f fd) (hm : mg x = some (.ref f)) (b : Binds K fd ps []) (S : FnScope N ps scope) (len : ∀ vs H Q E, sp vs H Q E → vs.length = ps.length) (owed : BodyOk P w K mg base k N x body scope f sp) : Cal P w K mg base (k + 1) x sp :=
  ⟨f, fd, ps, [], fnok_of F S len owed, hm, F.kp, b, .nil⟩
theorem met_of (F : FunD K x qual params body scope dvs kws f fd) (c : Cls K C) (me : Meth K C x f) (b : Binds K fd ps []) (S : FnScope N ps scope) (len : ∀ vs H Q E, sp vs H Q E → vs.length = ps.length) (owed : BodyOk P w K mg base k N qual body scope f sp) : Met P w K mg base (k + 1) C x sp :=
  ⟨f, fd, ps, [], c, me, fnok_of F S len owed, b, .nil⟩
/-- no defaults: the handed values, put in order by g, are the parameters -/
theorem kbn_by (F : FunD K x qual params body scope [] kws f fd) (g : {α : Type} → List α → List α → List α) (hrel : ∀ {vs zs : List V} {us ws : List Value}, Vals vs us → Vals zs ws → Vals (g vs zs) (g us ws))
    (h : ∀ (kV doc pm : Value) (an : Option Addr) (cdv ct : Value) (us ws : List Value), us.length = n → ws.length = ks.length → bindArgs (PySem.W.fnOf x qual params body scope .none kV doc pm an cdv ct) ⟨us, ks.zip ws⟩ = pure (ps.zip (g us ws))) :
    KBn K fd ps n ks (fun us ws => g us ws) (fun us ws => g us ws) := by
  obtain ⟨_, _, _, kV, doc, pm, an, cdv, ct, _, rfl, _, _, none_ | ⟨some_, _⟩, _⟩ := F.ex
  · cases none_.2
    exact ⟨fun _ us ws _ l1 l2 => .of_eq (h kV doc pm an cdv ct us ws l1 l2), hrel⟩
  · cases some_ rfl
theorem kbn_of (F : FunD K x qual params body scope [] kws f fd)
    (h : ∀ (kV doc pm : Value) (an : Option Addr) (cdv ct : Value) (us ws : List Value), us.length = n → ws.length = ks.length → bindArgs (PySem.W.fnOf x qual params body scope .none kV doc pm an cdv ct) ⟨us, ks.zip ws⟩ = pure (ps.zip (us ++ ws))) :
    KBn K fd ps n ks (fun us ws => us ++ ws) (fun us ws => us ++ ws) := kbn_by F (fun us ws => us ++ ws) (fun r1 r2 => r1.append r2) h
end
section
variable {X : Cx} {CX : CXT} {k j n : Nat} {C : Addr} {x m : Str} {sp : Sp} {dvs : List V} {p pos apos : Pos} {e o : Expr} {es : List Expr} {ta : TE} {t tk : TA} {ks : List Str} {kws : List Keyword} {gV : List V → List V → List V} {E : XK} {pl : Sem Bool}
/-- C() with all its parameters left out -/
theorem pe_mk0 (c : Mak X.prog X.w X.K X.mg X.base k x C sp dvs) (hr : Room j X.A) (hk : k + 1 ≤ j) (hg : Gl X x) (hdb : (x == ("__debug__" : Str)) = false := by decide) : PE X (.Call (.Name x p) [] [] pos) (tMake C sp dvs E0 tNil) :=
  let ⟨_, _, _, _, made, F, at_, b, d⟩ := c.ex
  pe_make0 made F (hr.mono hk) hg at_ b d pass0 hdb
/-- the text o.m(e, .., k = v, ..) has no star, names its keywords ks, and goes these steps -/
structure KwForm (X : Cx) (pl : Sem Bool) (o e : Expr) (es : List Expr) (kws : List Keyword) (m : Str) (apos pos : Pos) (ks : List Str) : Prop where
  named : (backToKw pos (keywordEach kws X.env)).all (·.1.isSome) = true
  names : (backToKw pos (keywordEach kws X.env)).filterMap (·.1) = ks
  first : starEach (e :: es) X.env = (false, eval e X.env) :: starEach es X.env
  plain : ((backTo pos (starEach (e :: es) X.env)).any (·.1) || (backToKw pos (keywordEach kws X.env)).any (·.1.isNone)) = false
  steps : eval (.Call (.Attribute o m apos) (e :: es) kws pos) X.env =
    (eval o X.env >>= fun ov => standAt apos.atName >>= fun _ => holding [ov] (getMethod ov m pl) >>= fun g => callWith pos g.1 g.2 (backTo pos (starEach (e :: es) X.env)) (backToKw pos (keywordEach kws X.env)))
def tMethG (C : Addr) (m : Str) (n nk : Nat) (sp : Sp) (gV : List V → List V → List V) (E : XK) (ta : TE) (t tk : TA) : TE := fun σ H Q => ta σ H fun x H1 => ∃ a dx fs, x = .ref a ∧ H1 a = some (.ins C dx fs) ∧ fs.lookup m = none ∧
  t σ H1 fun vs H2 => tk σ H2 fun zs H3 => vs.length + 1 = n ∧ zs.length = nk ∧ sp (gV (x :: vs) zs) H3 Q E
theorem pe_mg (c : MetG X.prog X.w X.K X.mg X.base CX k C m sp n ks gV) (hx : Passes CX X E) (hr : Room j X.A) (hk : k ≤ j) (he : PE X o ta) (ha : PA X (e :: es) t) (hkw : PK X kws tk) (form : KwForm X pl o e es kws m apos pos ks) :
    PE X (.Call (.Attribute o m apos) (e :: es) kws pos) (tMethG C m n ks.length sp gV E ta t tk) := by
  obtain ⟨f, fd, ps, g, cls, me, F, kb⟩ := c.ex
  obtain ⟨named, rfl, first, plain, steps⟩ := form
  constructor
  intro pins s σ H Q I h
  refine PySem.W.methodCall_KW (pl := pl) (thn (he.run pins s σ H _ I h) ?_) steps
  rintro _ s1 ⟨_, H1, I1, obj, a, dx, fs, rfl, here, own, q⟩
  cases (show _ = Value.ref a from obj)
  refine getmeth_ok I1 here cls me own (PySem.W.callWith_KW (first := [.ref a]) (h₀ := X.base) I.ok.mod.kin me.kp named (thn (ha.run pos pins s1 σ H1 _ I1 q) ?_) plain first)
  rintro us s2 ⟨vs, H2, I2, rv, q2⟩
  refine thn (hkw.run pos pins s2 σ H2 _ I2 q2) ?_
  rintro ws s3 ⟨zs, H3, I3, rz, ln, lk, q3⟩
  exact ⟨I3.kIn, run_fnN (us := .ref a :: us) (vs := .ref a :: vs) F (hr.mono hk) kb hx I3 (.cons rfl rv) rz ln lk q3⟩
/-- .. where the method raises nothing -/
theorem pe_mg0 (c : MetG X.prog X.w X.K X.mg X.base CX0 k C m sp n ks gV) (hr : Room j X.A) (hk : k ≤ j) (he : PE X o ta) (ha : PA X (e :: es) t) (hkw : PK X kws tk) (form : KwForm X pl o e es kws m apos pos ks := by exact ⟨rfl, rfl, rfl, rfl, rfl⟩) :
    PE X (.Call (.Attribute o m apos) (e :: es) kws pos) (tMethG C m n ks.length sp gV E0 ta t tk) := pe_mg c pass0 hr hk he ha hkw form
/-- an own method without values, as a builtin finds and runs it -/
theorem own0 (c : Met X.prog X.w X.K X.mg X.base k C m sp) : ∃ f, PySem.W.findIn X.K (.ref C) m = some (some (.ref f)) ∧ PySem.W.isFn X.K (.ref f) = true ∧ FnR X.prog X.w X.K X.mg X.base CX0 k f sp := by
  obtain ⟨f, _, _, _, _, me, F, b, d⟩ := c.ex
  exact ⟨f, me.at_, me.fn, (F.raw b d).imp fun vs _ _ _ h => (List.append_nil vs).symm ▸ h⟩
/-- len(o) by an own __len__ -/
def rLenO (C : Addr) (sp : Sp) : List V → Hp → VK → Prop := fun xs H Q => ∃ a dx fs, xs = [.ref a] ∧ H a = some (.ins C dx fs) ∧ sp [.ref a] H (fun v H' => ∃ i : Int, v = .int i ∧ 0 ≤ i ∧ i < 2 ^ 63 ∧ Q (.int i) H') E0
theorem call_lenO (c : Met X.prog X.w X.K X.mg X.base k C "__len__" sp) (hr : Room j X.A) (hk : k + 1 ≤ j) : CallR X (.builtin "len") (rLenO C sp) := by
  rintro pins s σ H _ us Q I r ⟨a, dx, fs, rfl, here, q⟩
  obtain rfl := Vals.ref1 r
  obtain ⟨f, hs, hf, F⟩ := own0 c
  obtain ⟨_, J0, _⟩ := ins_get I.hok here
  obtain ⟨_, J, _⟩ := J0.look
  obtain ⟨_, hF⟩ := I.fr
  refine PySem.W.len_K hF I.ok.mod.kin J hs hf (thn (wpAny_call (SlX.run_at F (hr.mono hk).in1 I.env0.in1 pass0 I r q)) ?_)
  rintro _ s1 ⟨_, H1, I1, rv, i, rfl, low, high, q1⟩
  obtain ⟨_, rfl⟩ := rv
  exact ⟨⟨low, high⟩, .int i, H1, I1.tok _, ⟨_, rfl⟩, q1⟩
/-- repr(o) by an own __repr__ -/
def rReprO (C : Addr) (sp : Sp) : List V → Hp → VK → Prop := fun xs H Q => ∃ a dx fs, xs = [.ref a] ∧ H a = some (.ins C dx fs) ∧ sp [.ref a] H (fun v H' => ∃ z : Str, v = .str z ∧ Q (.str z) H') E0
theorem call_reprO (c : Met X.prog X.w X.K X.mg X.base k C "__repr__" sp) (hr : Room j X.A) (hk : k + 1 ≤ j) : CallR X (.builtin "repr") (rReprO C sp) := by
  rintro pins s σ H _ us Q I r ⟨a, dx, fs, rfl, here, q⟩
  obtain rfl := Vals.ref1 r
  obtain ⟨f, hs, hf, F⟩ := own0 c
  obtain ⟨_, J0, _⟩ := ins_get I.hok here
  obtain ⟨_, J, _⟩ := J0.look
  obtain ⟨_, hF⟩ := I.fr
  have room : Room k X.A.in1 := (hr.mono hk).in1
  refine PySem.W.repr_K room.units0 hF I.ok.mod.kin J hs hf (thn (wpAny_call (SlX.run_at F room I.env0.in1 pass0 I r q)) ?_)
  rintro _ s1 ⟨_, H1, I1, rv, z, rfl, q1⟩
  obtain ⟨_, rfl⟩ := rv
  exact ⟨.str z, H1, I1, ⟨_, rfl⟩, q1⟩
end
end Tw

set_option maxHeartbeats 4000000
/-! what the program's and the law's data are, and what heaps keep -/
namespace Tw
open PySem PySem.Spec PyProof.Rows L2
theorem bb_len : bootBuiltins "len" = some (.builtin "len") := by decide +kernel
theorem bb_all : bootBuiltins "all" = some (.builtin "all") := by decide +kernel
theorem bb_abs : bootBuiltins "abs" = some (.builtin "abs") := by decide +kernel
theorem bb_repr : bootBuiltins "repr" = some (.builtin "repr") := by decide +kernel
theorem bb_isinstance : bootBuiltins "isinstance" = some (.builtin "isinstance") := by decide +kernel
theorem bb_list : bootBuiltins "list" = some (.type "list") := by decide +kernel
theorem bb_tuple : bootBuiltins "tuple" = some (.type "tuple") := by decide +kernel
theorem bb_str : bootBuiltins "str" = some (.type "str") := by decide +kernel
theorem bb_bool : bootBuiltins "bool" = some (.type "bool") := by decide +kernel
theorem bb_int : bootBuiltins "int" = some (.type "int") := by decide +kernel
theorem bb_dict : bootBuiltins "dict" = some (.type "dict") := by decide +kernel
/-! isinstance with a built-in class -/
def kitT : String → String → Bool
  | "bool", "bool" => true
  | "bool", "int" => true
  | "int", "int" => true
  | "str", "str" => true
  | "list", "list" => true
  | "tuple", "tuple" => true
  | "dict", "dict" => true
  | _, _ => false
def kinds : List String := ["NoneType", "bool", "int", "str", "list", "tuple", "dict"]
theorem kitB_all : (kinds.all fun a => (kinds.drop 1).all fun b => decide (kitB a b = some (kitT a b))) = true := by decide +kernel
theorem kitB_of {a b : String} (ha : a ∈ kinds) (hb : b ∈ kinds.drop 1) : kitB a b = some (kitT a b) :=
  of_decide_eq_true (List.all_eq_true.mp (List.all_eq_true.mp kitB_all a ha) b hb)
/-- isinstance(x, T): the reading asks the kind of x -/
def rIsK (K : PySem.W.Frag) : List V → Hp → VK → Prop := fun xs H Q => ∃ (x : V) (n a : String), xs = [x, .ty n] ∧ TyX K H x (.type a) ∧ a ∈ kinds ∧ n ∈ kinds.drop 1 ∧ Q (.bl (kitT a n)) H
theorem call_isK {X : Cx} : CallR X (.builtin "isinstance") (rIsK X.K) := by
  intro pins s σ H xs us Q I r h
  obtain ⟨x, n, a, rfl, ty, ha, hn, q⟩ := h
  exact call_isi pins s σ H _ us Q I r ⟨x, .ty n, .type a, .type n, kitT a n, rfl, .ty n, ty, kit_ty (kitB_of ha hn), q⟩
/-! the same rules inside a comprehension's block, where the written part is the def's -/
section
variable {X : Cx} {K : PySem.W.Frag}
theorem ix_tupK (h : X.K = K) : IxR X (rIxT K) := h ▸ ix_tup
theorem ix_listK (h : X.K = K) : IxR X (rIxL K) := h ▸ ix_list
theorem ix_seqK (h : X.K = K) : IxR X (rIx K) := h ▸ ix_seq
theorem op_in_seqK (h : X.K = K) : OpR X (compareOp .In) (rIn K false) := h ▸ op_in_seq
theorem op_notIn_seqK (h : X.K = K) : OpR X (compareOp .NotIn) (rIn K true) := h ▸ op_notIn_seq
theorem call_len_seqK (h : X.K = K) : CallR X (.builtin "len") (fun xs H Q => ∃ p ys, xs = [.ref p] ∧ (SqL K H p ys ∨ SqT K H p ys) ∧ Q (.int ys.length) H) := h ▸ call_len_seq
theorem call_isKK (h : X.K = K) : CallR X (.builtin "isinstance") (rIsK K) := h ▸ call_isK
theorem pe_fldK {e : Expr} {f : Str} {ta : TE} {pos : Pos} (h : X.K = K) (ha : PE X e ta) (hb : attributeBase e f X.env (eval e X.env) = eval e X.env) : PE X (.Attribute e f pos) (tFld K ta f) := h ▸ pe_fld ha hb
theorem pg_tupK {es : List Expr} {k : Nat} {t : TGs} {n : Nat} {pos : Pos} (h : X.K = K) (hc : X.calm = true) (hg : PGs X es t) (hn : (assignEach es X.env).length = n := by rfl) (hst : (assignEach es X.env).findIdx? (·.1) = none := by rfl) : PG X (.Tuple es k pos) (gTup K n t) := h ▸ pg_tup hc hg hn hst
end
theorem yes_i {σ : L2.St} {H : Hp} {Q : Bool → Hp → Prop} (h : Q true H) : tYes σ H Q := h
/-! ### heaps -/
theorem same_upd {H : Hp} {p : Addr} {o : HO} (h : H p = none) : Same H (upd H p o) := fun b x e => by
  rw [upd_ne (ne_of_none e h)]
  exact e
/-- all but the place f stays -/
def Sb (f : Addr) (H H' : Hp) : Prop := ∀ b o, H b = some o → b ≠ f → H' b = some o
theorem Sb.refl {f : Addr} {H : Hp} : Sb f H H := fun _ _ h _ => h
theorem Sb.of {f : Addr} {H H' : Hp} (s : Same H H') : Sb f H H' := fun b o h _ => s b o h
theorem Sb.trans {f : Addr} {H H1 H2 : Hp} (a : Sb f H H1) (b : Sb f H1 H2) : Sb f H H2 := fun c o h n => b c o (a c o h n) n
theorem Sb.upd {f : Addr} {H : Hp} {o : HO} : Sb f H (upd H f o) := fun b x e n => by
  rw [upd_ne n]
  exact e
/-- tuples stay -/
def Kt (H H' : Hp) : Prop := ∀ b xs, H b = some (.tup xs) → H' b = some (.tup xs)
theorem Kt.of {H H' : Hp} (s : Same H H') : Kt H H' := fun b _ h => s b _ h
theorem Kt.trans {H H1 H2 : Hp} (a : Kt H H1) (b : Kt H1 H2) : Kt H H2 := fun c o h => b c o (a c o h)
theorem Sb.kt {f : Addr} {H H' : Hp} {xs : List V} (s : Sb f H H') (hf : H f = some (.lst xs)) : Kt H H' := fun b _ h => s b _ h (ne_of h hf (by intro z; cases z))
theorem Kt.upd {H : Hp} {p : Addr} {o : HO} (h : ∀ xs, H p = some (.tup xs) → o = .tup xs) : Kt H (upd H p o) := fun b xs e => by
  by_cases hb : b = p
  · subst hb
    rw [upd_same, h xs e]
  · rw [upd_ne hb]
    exact e
/-! ### the data -/
structure Wd where
  en : Str
  bg : Str
  lo : Int
  hi : Int
  la : Option Int
structure Bd where
  one : Str
  oth : Str
  bot : Option Int
  top : Option Int
/-- a web as the law keeps it -/
structure Md where
  last : Int
  own : List Str
  wd : List Wd
  bd : List Bd
def oV : Option Int → V
  | none => .non
  | some i => .int i
def Wd.row (x : Wd) : List V := [.str x.en, .str x.bg, .int x.lo, .int x.hi, oV x.la]
def Bd.row (x : Bd) : List V := [.str x.one, .str x.oth, oV x.bot, oV x.top]
def Md.pts (m : Md) : List Str := "start" :: (m.own ++ m.wd.map (·.en))
/-- tuples stand at these places -/
def Rows (H : Hp) (xs : List V) (rs : List (List V)) : Prop := Paired (fun x r => ∃ t, x = V.ref t ∧ H t = some (.tup r)) xs rs
theorem Rows.keep {H H' : Hp} (k : Kt H H') {xs : List V} {rs : List (List V)} (h : Rows H xs rs) : Rows H' xs rs := Paired.mono (fun _ _ ⟨t, e, ht⟩ => ⟨t, e, k t _ ht⟩) h
theorem Rows.len {H : Hp} {xs : List V} {rs : List (List V)} (h : Rows H xs rs) : xs.length = rs.length := Paired.length h
theorem Rows.snoc {H : Hp} {xs : List V} {rs : List (List V)} {t : Addr} {r : List V} (h : Rows H xs rs) (e : H t = some (.tup r)) : Rows H (xs ++ [.ref t]) (rs ++ [r]) := Paired.snoc h ⟨t, rfl, e⟩
theorem paired_at {α β : Type} {F : α → β → Prop} : ∀ {l : List α} {m : List β} {i : Nat} {a : α}, Paired F l m → l[i]? = some a → ∃ b, m[i]? = some b ∧ F a b
  | _, _, 0, _, .cons h _, e => by
    cases e
    exact ⟨_, rfl, h⟩
  | _, _, i + 1, a, .cons _ t, e => by
    obtain ⟨b, h1, h2⟩ := paired_at (i := i) t e
    exact ⟨b, h1, h2⟩
theorem Rows.at {H : Hp} {xs : List V} {rs : List (List V)} {i : Nat} {x : V} (h : Rows H xs rs) (e : xs[i]? = some x) : ∃ t r, x = .ref t ∧ rs[i]? = some r ∧ H t = some (.tup r) := by
  obtain ⟨r, h1, t, h2, h3⟩ := paired_at h e
  exact ⟨t, r, h2, h1, h3⟩
/-- a Web's attributes -/
def wf (last : Int) (a b c : Addr) : List (Str × V) := [("by", .int last), ("moment_rows", .ref a), ("span_rows", .ref b), ("tie_rows", .ref c)]
theorem wf_by {l : Int} {a b c : Addr} : (wf l a b c).lookup ("by" : Str) = some (.int l) := by
  unfold wf
  rw [List.lookup_cons_self]
theorem wf_m {l : Int} {a b c : Addr} : (wf l a b c).lookup ("moment_rows" : Str) = some (.ref a) := by
  unfold wf
  rw [List.lookup_cons, show (("moment_rows" : Str) == "by") = false by decide +kernel, List.lookup_cons_self]
theorem wf_s {l : Int} {a b c : Addr} : (wf l a b c).lookup ("span_rows" : Str) = some (.ref b) := by
  unfold wf
  rw [List.lookup_cons, show (("span_rows" : Str) == "by") = false by decide +kernel, List.lookup_cons, show (("span_rows" : Str) == "moment_rows") = false by decide +kernel, List.lookup_cons_self]
theorem wf_t {l : Int} {a b c : Addr} : (wf l a b c).lookup ("tie_rows" : Str) = some (.ref c) := by
  unfold wf
  rw [List.lookup_cons, show (("tie_rows" : Str) == "by") = false by decide +kernel, List.lookup_cons, show (("tie_rows" : Str) == "moment_rows") = false by decide +kernel, List.lookup_cons, show (("tie_rows" : Str) == "span_rows") = false by decide +kernel, List.lookup_cons_self]
def webAttrs : List Str := ["by", "moment_rows", "span_rows", "tie_rows"]
theorem wf_no {l : Int} {a b c : Addr} {m : Str} (h : webAttrs.all (fun x => !(m == x)) = true) : (wf l a b c).lookup m = none := by
  unfold webAttrs at h
  simp only [List.all_cons, List.all_nil, Bool.and_true, Bool.and_eq_true, Bool.not_eq_true'] at h
  obtain ⟨h1, h2, h3, h4⟩ := h
  unfold wf
  rw [List.lookup_cons, h1, List.lookup_cons, h2, List.lookup_cons, h3, List.lookup_cons, h4]
  rfl
/-- a web stands at p -/
structure WebAt (C : Addr) (H : Hp) (p : Addr) (m : Md) : Prop where
  ex : ∃ (dx a b c : Addr) (ws bs : List V), H p = some (.ins C dx (wf m.last a b c)) ∧ H a = some (.tup (m.own.map V.str)) ∧ H b = some (.tup ws) ∧ Rows H ws (m.wd.map Wd.row) ∧ H c = some (.tup bs) ∧ Rows H bs (m.bd.map Bd.row)
  len : m.own.length ≤ 10 ∧ m.wd.length ≤ 4 ∧ m.bd.length ≤ 40
  last : 1 ≤ m.last ∧ m.last ≤ 1000
theorem WebAt.keep {C : Addr} {H H' : Hp} {p : Addr} {m : Md} (h : WebAt C H p m) (hp : ∀ dx fs, H p = some (.ins C dx fs) → H' p = some (.ins C dx fs)) (k : Kt H H') : WebAt C H' p m := by
  obtain ⟨dx, a, b, c, ws, bs, h1, h2, h3, h4, h5, h6⟩ := h.ex
  exact ⟨⟨dx, a, b, c, ws, bs, hp _ _ h1, k _ _ h2, k _ _ h3, h4.keep k, k _ _ h5, h6.keep k⟩, h.len, h.last⟩
theorem WebAt.same {C : Addr} {H H' : Hp} {p : Addr} {m : Md} (h : WebAt C H p m) (s : Same H H') : WebAt C H' p m := h.keep (fun _ _ e => s _ _ e) (Kt.of s)
theorem WebAt.sb {C : Addr} {H H' : Hp} {p f : Addr} {m : Md} {xs : List V} (h : WebAt C H p m) (s : Sb f H H') (hf : H f = some (.lst xs)) : WebAt C H' p m :=
  h.keep (fun _ _ e => s _ _ e (ne_of e hf (by intro z; cases z))) (s.kt hf)
/-- what is a name -/
abbrev letters : Str := "abcdefghijklmnopqrstuvwxyz"
def Nm (z : Str) : Prop := 1 ≤ z.length ∧ z.length ≤ 8 ∧ ∀ c ∈ z.cps.toList, c ∈ letters.cps.toList
end Tw

set_option maxHeartbeats 4000000
/-! a try with several clauses, each of one, two or three classes, each with a name -/
namespace Tw
open PySem PySem.Spec PyProof.Rows L2
/-- the classes that a clause names -/
inductive Cls3 (X : Cx) : Expr → List Value → Prop
  | one {x : Str} {c : Value} {np : Pos} (h : Names X x c) : Cls3 X (.Name x np) [c]
  | two {x y : Str} {c d : Value} {p q r : Pos} {kk : Nat} (h1 : Names X x c) (h2 : Names X y d) : Cls3 X (.Tuple [.Name x p, .Name y q] kk r) [c, d]
  | three {x y z : Str} {c d e : Value} {p q r t : Pos} {kk : Nat} (h1 : Names X x c) (h2 : Names X y d) (h3 : Names X z e) : Cls3 X (.Tuple [.Name x p, .Name y q, .Name z r] kk t) [c, d, e]
theorem exm1 {K : PySem.W.Frag} {cls c : Value} {b : Bool} (h : PySem.W.exmAny K cls [c] = some b) : PySem.W.exmOne K cls c = some b := by
  obtain ⟨b1, d1, h1, h2, e⟩ := PySem.W.exmAny_cons h
  have e2 : d1 = false := (Option.some.inj h2).symm
  rw [e, e2, Bool.or_false]
  exact h1
section
variable {X : Cx} {a : Addr} {pn : List (Addr × Obj)} {σ : L2.St} {H : Hp}
theorem named {s : Shared} {x : Str} {c : Value} {np : Pos} {Q : Value → Shared → Prop} {E : Value → Shared → Prop} (S : Inv (X.suite a pn) [] σ H s) (h : Names X x c) (q : Q c s) : wpAny (model X.prog X.w) (X.A.mark (some (.ref a))) (eval (.Name x np) X.env) Q E s := by
  obtain ⟨hg, hd, hm | ⟨hm, hv, hn⟩⟩ := h
  · exact ld_glob (X := X.suite a pn) S hg hm q hd
  · exact ld_blt (X := X.suite a pn) S hg hm hv q hn hd
/-- whether a clause takes the exception; a tuple of classes is laid -/
theorem cls3_test {s : Shared} {te : Expr} {cs : List Value} {cls : Value} {b : Bool} {Q : Bool → Shared → Prop} {E : Value → Shared → Prop} (T : Cls3 X te cs) (S : Inv (X.suite a pn) [] σ H s) (LT : PySem.W.Looks (model X.prog X.w) s.heap (typeOf (.ref a)) cls) (hb : PySem.W.exmAny X.K cls cs = some b)
    (q : ∀ h', (∀ b o, s.heap.get? b = some o → h'.get? b = some o) → Q b { s with heap := h' }) :
    wpAny (model X.prog X.w) (X.A.mark (some (.ref a))) (eval te X.env) (fun c s₁ => wpAny (model X.prog X.w) (X.A.mark (some (.ref a))) (excMatches (.ref a) c) Q E s₁) E s := by
  have kin : X.K.In s.heap := S.kIn
  cases T with
  | one h => exact named S h ((PySem.W.exm_one kin LT (exm1 hb)).here (q s.heap fun _ _ z => z))
  | @two x y c d p1 p2 p3 kk h1 h2 =>
    have kp : ∀ b o, s.heap.get? b = some o → (s.heap.push { cls := .type "tuple", data := .seq [c, d].toArray }).get? b = some o := fun b o z => Heap.get?_push_of_some _ z
    refine wpAny_Tuple (wpAny_items_cons (named S h1 (wpAny_items_cons (named S h2 (wpAny_items_nil ⟨by show 2 ≤ sizeLine; decide, ?_⟩)))))
    exact (PySem.W.exm_tup2 (kin.keeps kp) (LT.keeps kp) (Heap.get?_push_size s.heap rfl) hb).here (q _ kp)
  | @three x y z c d e p1 p2 p3 p4 kk h1 h2 h3 =>
    have kp : ∀ b o, s.heap.get? b = some o → (s.heap.push { cls := .type "tuple", data := .seq [c, d, e].toArray }).get? b = some o := fun b o z => Heap.get?_push_of_some _ z
    refine wpAny_Tuple (wpAny_items_cons (named S h1 (wpAny_items_cons (named S h2 (wpAny_items_cons (named S h3 (wpAny_items_nil ⟨by show 3 ≤ sizeLine; decide, ?_⟩)))))))
    exact (PySem.W.exm_tup3 (kin.keeps kp) (LT.keeps kp) (Heap.get?_push_size s.heap rfl) hb).here (q _ kp)
end
theorem fly_more {B h h' : Heap} {l : List Env} {e : Addr} {Z : Obj → Prop} (f : HandSPX.FlyingZ B l e Z h) (k : ∀ b o, h.get? b = some o → h'.get? b = some o) : HandSPX.FlyingZ B l e Z h' := by
  obtain ⟨f1, f2, f3, oe, vs, T, oT, ts, t1, t2, t3, t4, t5, t6, t7, t8⟩ := f
  exact ⟨fun b o z => k b o (f1 b o z), f2, f3.of_keeps fun b o z _ => ⟨o, k b o z, rfl⟩, oe, vs, T, oT, ts, k _ _ t1, t2, t3, t4, t5, t6, k _ _ t7, t8⟩
abbrev Hdl := List Value × (Addr → Value → Option Addr → TS)
/-- how a suite with a name in slot i ends -/
def endsAs (i : Nat) (D : Ends) : Ends := { nx := fun σ H => D.nx (σ.set i none) H, rt := D.rt, bk := fun σ H => D.bk (σ.set i none) H, ct := fun σ H => D.ct (σ.set i none) H }
/-- what the clauses wish of an exception, one behind the other -/
def wAsM (K : PySem.W.Frag) (i : Nat) (Wo : WX) (D : Ends) : List Hdl → WX
  | [] => Wo
  | (cs, ts) :: r => fun cls d σ H => ∃ b, PySem.W.exmAny K cls cs = some b ∧ (b = true → ∀ a, H a = none → ts a cls d (endsAs i D) (σ.set i (some (.ref a))) H) ∧ (b = false → wAsM K i Wo D r cls d σ H)
inductive HdAs (X : Cx) (n : Str) : List ExceptHandler → List Hdl → Prop
  | nil : HdAs X n [] []
  | cons {te : Expr} {cs : List Value} {ts : Addr → Value → Option Addr → TS} {st : Stmt} {su : List Stmt} {pos : Pos} {hds : List ExceptHandler} {l : List Hdl} (hc : Cls3 X te cs)
      (hsu : ∀ (a : Addr) (oe : Obj) (cls : Value) (d : Option Addr) (pn : List (Addr × Obj)), Zc cls d oe → (∃ vs, oe.data = .fields vs) → PSs (X.suite a ((a, oe) :: pn)) (st :: su) (ts a cls d)) (r : HdAs X n hds l) :
      HdAs X n (.ExceptHandler (some te) (some n) (st :: su) pos :: hds) ((cs, ts) :: l)
/-- an exception a that has come down at this frame, as the heap h has it; sI: the state without it -/
structure Down (X : Cx) (pins : List (Addr × Obj)) (σ : L2.St) (H : Hp) (sI s' : Shared) (B : Heap) (a : Addr) (cls : Value) (d : Option Addr) (h : Heap) : Prop where
  inv : Inv X pins σ H sI
  ground : ∀ b o, sI.heap.get? b = some o → b ∉ frs X.stack → B.get? b = some o
  fly : HandSPX.FlyingZ B (X.env :: X.outer) a (Zc cls d) h
  up : sI.heap.UpToSlots h
  free : H a = none
  os : s'.os = sI.os
  bare : AllBare s'.gens
/-- what is to be done with an exception of the body -/
def onCatch (X : Cx) (pins : List (Addr × Obj)) (D : Ends) (hds : List ExceptHandler) (e : Value) (s : Shared) : Prop :=
  wpAny (model X.prog X.w) X.A (noteFrame e X.env) (fun _ s1 => wpAny (model X.prog X.w) X.A (setFlight e none) (fun _ s2 => wpAny (model X.prog X.w) X.A (handleBy e X.env hds) (SP X pins D) X.xe s2) X.xe s1) X.xe s
section
variable {X : Cx} {pins : List (Addr × Obj)} {σ : L2.St} {H : Hp} {sI s' : Shared} {B h h' : Heap} {a : Addr} {cls : Value} {d : Option Addr} {i : Nat} {n : Str} {Wo : WX} {D : Ends} {hds : List ExceptHandler} {l : List Hdl}
theorem Down.more (dn : Down X pins σ H sI s' B a cls d h) (k : ∀ b o, h.get? b = some o → h'.get? b = some o) : Down X pins σ H sI s' B a cls d h' := { dn with fly := fly_more dn.fly k, up := dn.up.trans (Heap.UpToSlots.of_keeps k) }
/-- its suite may begin -/
theorem Down.suite (dn : Down X pins σ H sI s' B a cls d h) (hf : X.env.frame = some X.env.locals) : ∃ oe, h.get? a = some oe ∧ Zc cls d oe ∧ (∃ vs, oe.data = .fields vs) ∧ Inv (X.suite a ((a, oe) :: (X.pn ++ pins))) [] σ H { s' with heap := h } := by
  obtain ⟨oe, vs, at_, zc, hd⟩ := dn.fly.there
  have noFrame : ∀ e ∈ X.env :: X.outer, e.frame ≠ some a := fun e he hfr => by
    obtain ⟨_, o, ho, no⟩ := dn.fly.2.2.1.mem (List.mem_filterMap.mpr ⟨e, he, hfr⟩)
    cases ho.symm.trans at_
    exact no _ hd
  refine ⟨oe, at_, zc, ⟨vs, hd⟩, (dn.inv.landed (s' := { s' with heap := h }) dn.ground dn.fly.1 dn.up dn.os dn.bare).suite at_ hd dn.free ?_ ?_⟩
  · rintro rfl
    exact noFrame X.env (.head _) hf
  · intro inFs
    obtain ⟨e, he, hfr⟩ := List.mem_filterMap.mp inFs
    exact noFrame e (.tail _ he) hfr
/-- no clause takes it: it goes on -/
theorem Down.pass (dn : Down X pins σ H sI s' B a cls d h) (hs : X.stack = X.env :: X.outer) (hf : X.env.frame = some X.env.locals) (tk : Takes X Wo) (wish : Wo cls d σ H) : wpAny (model X.prog X.w) X.A (handleBy (.ref a) X.env []) (SP X pins D) X.xe { s' with heap := h } := by
  have goes : ∀ h4, HandSPX.HeldZ B (X.env :: X.outer) a (Zc cls d) X.env.locals h4 → h.UpToSlots h4 → X.xe (.ref a) { s' with heap := h4 } := fun h4 held up4 =>
    tk _ _ ⟨a, B, sI, pins, σ, H, cls, d, rfl, dn.inv, dn.ground, dn.up.trans up4, .inr (.inr (hs ▸ held)), dn.free, dn.os, dn.bare, wish⟩
  obtain ⟨_, _, T, _, _, at_, _, hd, traced, _⟩ := dn.fly.2.2.2
  refine wpAny_handleBy_nil ?_
  unfold PySem.passOn
  rw [hf]
  refine wpAny_bind (wpAny_field at_ hd traced ?_)
  rw [if_neg (by simp)]
  repeat (first | with_reducible refine HandSPX.setFlight_upZ dn.fly fun h4 held up4 => ?_ | with_reducible refine wpAny_throw (goes _ held up4) | wp_step)
/-- behind a suite its name goes -/
theorem suite_ends {q : Addr × Obj} {f : Flow} {s6 : Shared} {pos : Pos} (ok : X.Ok) (hN : X.N.Nodup) (hi : X.N[i]? = some n) (hln : X.env.kindOf n = some .local) (ended : SP (X.suite a (q :: (X.pn ++ pins))) [] (endsAs i D) f s6) :
    wpAny (model X.prog X.w) X.A (do bindName X.env n .none; unbindBehindTheSuite X.env n pos) (fun _ s7 => SP X pins D f s7) X.xe s6 := by
  cases f with
  | ret u =>
    obtain ⟨v, _, H6, S6, r, q6⟩ := ended
    exact gone_ok (S6.unsuite ok) hN hi hln fun s7 J => ⟨v, _, H6, J, r, q6⟩
  | next =>
    obtain ⟨_, H6, S6, q6⟩ := ended
    exact gone_ok (S6.unsuite ok) hN hi hln fun s7 J => ⟨_, H6, J, q6⟩
  | brk =>
    obtain ⟨_, H6, S6, q6⟩ := ended
    exact gone_ok (S6.unsuite ok) hN hi hln fun s7 J => ⟨_, H6, J, q6⟩
  | cont =>
    obtain ⟨_, H6, S6, q6⟩ := ended
    exact gone_ok (S6.unsuite ok) hN hi hln fun s7 J => ⟨_, H6, J, q6⟩
theorem Down.clauses (hs : X.stack = X.env :: X.outer) (hf : X.env.frame = some X.env.locals) (hN : X.N.Nodup) (hi : X.N[i]? = some n) (hln : X.env.kindOf n = some .local) (tk : Takes X Wo) (hh : HdAs X n hds l) :
    ∀ {h : Heap}, Down X pins σ H sI s' B a cls d h → wAsM X.K i Wo D l cls d σ H → wpAny (model X.prog X.w) X.A (handleBy (.ref a) X.env hds) (SP X pins D) X.xe { s' with heap := h } := by
  induction hh with
  | nil => exact fun dn wish => dn.pass hs hf tk wish
  | cons hc hsu _ further =>
    rintro h dn ⟨b, fits, yes, no⟩
    obtain ⟨oe, at_, zc, _, S⟩ := dn.suite hf
    have kind : PySem.W.Looks (model X.prog X.w) h (typeOf (.ref a)) cls := fun _ _ _ _ k q => wpAny_typeOf_ref (k _ _ at_) (by rw [zc.1]; exact q)
    refine wpAny_handleBy_cons (codeAny_handlers_test (cls3_test hc S kind fits fun h6 k6 => ?_)) (fun q => nomatch q)
    cases b with
    | false => exact further (dn.more k6) (no rfl)
    | true =>
      refine codeAny_handlers_suite_as (HandSPX.lands_againZ (dn.more k6).fly fun h4 fl4 up4 => ?_)
      obtain ⟨o4, _, zc4, hd4, S4⟩ := Down.suite { dn.more k6 with fly := fl4, up := (dn.more k6).up.trans up4 } hf
      refine store_ok (X := X.suite a ((a, o4) :: (X.pn ++ pins))) (v := .ref a) S4 hN hi (.inl hln) rfl (fun s5 S5 => ?_) (.inr hln)
      exact wpAny_mono ((hsu a o4 cls d (X.pn ++ pins) zc4 hd4).run [] s5 _ H _ S5 (yes rfl a dn.free)) (fun f s6 ended => suite_ends dn.inv.ok hN hi hln ended) fun _ _ z => z.elim
end
section
variable {X : Cx} {i : Nat} {n : Str} {body : List Stmt} {h₀ : ExceptHandler} {hds : List ExceptHandler} {l : List Hdl} {pos : Pos} {tb : WX → TS} {Wo : WX}
/-- try: body, except (A, B) as n: .., except C as n: .. -/
theorem ps_tryM (hs : X.stack = X.env :: X.outer) (hf : X.env.frame = some X.env.locals) (hN : X.N.Nodup) (hi : X.N[i]? = some n) (hln : X.env.kindOf n = some .local) (tk : Takes X Wo)
    (hb : ∀ (W : WX) (pn : List (Addr × Obj)) (xe : Value → Shared → Prop), Takes (X.tr pn xe) W → PassesOwn (model X.prog X.w) X.A X.env xe → PSs (X.tr pn xe) body (tb W)) (hh : HdAs X n (h₀ :: hds) l) :
    PS X (.Try body (h₀ :: hds) [] [] pos) (fun D σ H => tb (fun cls d σ' H' => σ'.length = X.N.length → wAsM X.K i Wo D l cls d σ' H') D σ H) := by
  constructor
  intro pins s σ H D I h
  have ok := I.ok
  have caught : Takes (X.tr (X.pn ++ pins) (onCatch X pins D (h₀ :: hds))) (fun cls d σ' H' => σ'.length = X.N.length → wAsM X.K i Wo D l cls d σ' H') := by
    rintro _ s1 ⟨a, B, sI, _, σ1, H1, cls, d, rfl, J, ground, up, sky, free, os, bare, wish⟩
    exact Sky.land Zc.steady (ok.frames.trans (congrArg some hs)) hf (hs ▸ sky) fun h3 fly up3 => Down.clauses hs hf hN hi hln tk hh ⟨J.ofTry ok, ground, fly, up.trans up3, free, os, bare⟩ (wish J.len)
  refine wpAny_Try_except (wpAny_mono ((hb _ _ _ caught PassesOwn.looking).run [] s σ H D (I.toTry _) h) (fun f s1 ended => ?_) fun _ _ z => z)
  cases f with
  | ret u =>
    obtain ⟨v, σ1, H1, J, r, q⟩ := ended
    exact ⟨v, σ1, H1, J.ofTry ok, r, q⟩
  | next =>
    obtain ⟨σ1, H1, J, q⟩ := ended
    exact wpAny_execs_nil ⟨σ1, H1, J.ofTry ok, q⟩
  | brk =>
    obtain ⟨σ1, H1, J, q⟩ := ended
    exact ⟨σ1, H1, J.ofTry ok, q⟩
  | cont =>
    obtain ⟨σ1, H1, J, q⟩ := ended
    exact ⟨σ1, H1, J.ofTry ok, q⟩
end
end Tw

set_option maxHeartbeats 4000000
/-! own exceptions: fields read in a suite, __init__ called through its class, defs that raise, the head with tables -/
namespace Tw
open PySem PySem.Spec PyProof.Rows L2
/-! ### a field of the caught exception, whatever its class -/
def tXw (K : PySem.W.Frag) (a : Addr) (cls : Value) (d : Option Addr) (f : Str) (te : TE) : TE := fun σ H Q => te σ H fun x H1 => x = .ref a ∧ ∃ (C dd : Addr) (fs : List (Str × V)) (v : V), cls = .ref C ∧ XfC K C ∧ PySem.W.findIn K (.ref C) f = some none ∧ d = some dd ∧ H1 dd = some (.xd fs) ∧ fs.lookup f = some v ∧ Q v H1
theorem xd_field {P : Program} {w : World} {H : Hp} {h : Heap} {dd : Addr} {fs : List (Str × V)} {n : Str} {v : V} (hok : HOk P w H h) (at_ : H dd = some (.xd fs)) (l : fs.lookup n = some v) : ∃ od z, h.get? dd = some od ∧ PySem.W.lookIn n od = some (some z) ∧ RelV v z := by
  obtain ⟨m, ns, rel⟩ := (show ObjOk P w H h dd (.xd fs) from hok dd _ at_)
  obtain ⟨od, ho, look⟩ := lookIn_ns ns
  obtain ⟨z, hz, rz⟩ := RelO.some_of (v := v) (o := m n) (l ▸ rel n)
  exact ⟨od, z, ho, (look n).trans (congrArg some hz), rz⟩
theorem pe_xw {X : Cx} {a : Addr} {oe : Obj} {cls : Value} {d : Option Addr} {pn : List (Addr × Obj)} {e : Expr} {te : TE} {pos : Pos} {n : Str} (hz : Zc cls d oe) (hf : ∃ vs, oe.data = .fields vs) (he : PE (X.suite a ((a, oe) :: pn)) e te)
    (hb : attributeBase e n X.env (eval e X.env) = eval e X.env := by rfl) : PE (X.suite a ((a, oe) :: pn)) (.Attribute e n pos) (tXw X.K a cls d n te) := by
  constructor
  intro pins s σ H Q I h
  refine attr_of hb (thn (he.run pins s σ H _ I h) ?_)
  rintro _ s1 ⟨_, H1, I1, obj, rfl, C, dd, fs, v, rfl, T, no, rfl, ea, l, q⟩
  cases (show _ = Value.ref a from obj)
  obtain ⟨od, z, ho, look, rz⟩ := xd_field I1.hok ea l
  obtain ⟨vs, hd⟩ := hf
  have caught : s1.heap.get? a = some oe := (I1.pin (a, oe) (by simp)).1
  have whole : PySem.W.InstAt s1.heap a oe C (some od) := ⟨caught, hz.1, by simp [PySem.W.notCls, hd], by simpa [hz.2] using ho⟩
  exact HandSPX.exc_get I1.kIn whole T.ga T.gg T.exC (PySem.W.findObj_own T.hdC no rfl look) (handed_of rz) ⟨v, H1, I1.tok _, rz, q⟩
/-! ### the forms of a text: plain values only -/
/-- x(e, ..) -/
structure Flat (X : Cx) (x : Str) (e : Expr) (es : List Expr) (pos : Pos) : Prop where
  dbg : (x == ("__debug__" : Str)) = false
  first : starEach (e :: es) X.env = (false, eval e X.env) :: starEach es X.env
  plain : (backTo pos (starEach es X.env)).any (·.1) = false
/-- o.m(e, ..) -/
structure MeForm (X : Cx) (pl : Sem Bool) (o e : Expr) (es : List Expr) (m : Str) (apos pos : Pos) : Prop where
  first : starEach (e :: es) X.env = (false, eval e X.env) :: starEach es X.env
  plain : (backTo pos (starEach es X.env)).any (·.1) = false
  steps : eval (.Call (.Attribute o m apos) (e :: es) [] pos) X.env =
    (eval o X.env >>= fun ov => standAt apos.atName >>= fun _ => holding [ov] (getMethod ov m pl) >>= fun g => callWith pos g.1 g.2 (backTo pos (starEach (e :: es) X.env)) (backToKw pos (keywordEach [] X.env)))
/-! ### x.m(..): a def read off a class -/
structure ClsDef (K : PySem.W.Frag) (C f : Addr) (m : Str) : Prop where
  reads : PySem.W.readsIn K C (.type "type") = true
  special : PySem.W.specialIn K (.ref C) "__getattribute__" = some (some (.builtin "type.__getattribute__"))
  find : PySem.W.findCls K (.ref C) (.type "type") m = some (.val (.ref f))
section
variable {X : Cx} {k j : Nat} {f C : Addr} {fd : FuncData} {ps : List Str} {sp : Sp} {x m : Str} {p1 p2 pos : Pos} {e : Expr} {es : List Expr} {t : TA} {pl : Sem Bool}
theorem pe_ci (T : ClsDef X.K C f m) (hg : Gl X x) (hm : X.mg x = some (.ref C)) (hk : PySem.W.keepIn X.K (.ref f) = true) (F : FnOk X.prog X.w X.K X.mg X.base CX0 k f fd ps sp) (hr : Room j X.A) (hj : k ≤ j) (hb : Binds X.K fd ps []) (ha : PA X (e :: es) t)
    (form : MeForm X pl (.Name x p1) e es m p2 pos := by exact ⟨rfl, rfl, rfl⟩) (hdb : (x == ("__debug__" : Str)) = false := by decide) :
    PE X (.Call (.Attribute (.Name x p1) m p2) (e :: es) [] pos) (tCall sp [] E0 t) := by
  constructor
  intro pins s σ H Q I h
  refine PySem.W.methodCall_KW (pl := pl) (ld_glob I hg hm (PySem.W.method_cls I.kIn T.special (PySem.W.cls_value I.kIn T.reads T.find rfl ?_)) hdb) form.steps
  refine PySem.W.callWith_K (first := []) (h₀ := X.base) I.ok.mod.kin hk (thn (ha.run pos pins _ σ H _ (I.tok _) h) ?_) form.first form.plain
  rintro us s2 ⟨vs, H2, I2, r, q2⟩
  exact ⟨I2.kIn, run_fn (us := us) (vs := vs) F (hr.mono hj) hb .nil pass0 I2 r q2⟩
end
/-! ### defs that raise -/
structure CalX (P : Program) (w : World) (K : PySem.W.Frag) (mg : Str → Option Value) (base : Heap) (k : Nat) (x : Str) (sp : Sp) : Prop where
  ex : ∃ (f : Addr) (fd : FuncData) (ps : List Str), FnOk P w K mg base (L2.CX P w) k f fd ps sp ∧ mg x = some (.ref f) ∧ PySem.W.keepIn K (.ref f) = true ∧ Binds K fd ps []
structure MetX (P : Program) (w : World) (K : PySem.W.Frag) (mg : Str → Option Value) (base : Heap) (k : Nat) (C : Addr) (m : Str) (sp : Sp) : Prop where
  ex : ∃ (f : Addr) (fd : FuncData) (ps : List Str), Cls K C ∧ Meth K C m f ∧ FnOk P w K mg base (L2.CX P w) k f fd ps sp ∧ Binds K fd ps []
/-- the body's part, what is raised told -/
abbrev BodyX (P : Program) (w : World) (K : PySem.W.Frag) (mg : Str → Option Value) (base : Heap) (k : Nat) (N : List Str) (qual : Str) (body : List Stmt) (scope : Scope) (f : Addr) (sp : Sp) : Prop :=
  ∀ (cdv : Value) (A : Around) (outer : List Env) (s : Shared) (H : Hp) (vs : List V) (Q : VK) (E : XK), Room k (A.deeper (envOfC qual scope s.heap.objs.size f cdv)) → sp vs H Q E →
    Takes (cxOf (L2.CX P w) P w K mg base N qual scope f cdv A outer s H E) (fun cls d _ H' => E cls d H') → ∃ t, PSs (cxOf (L2.CX P w) P w K mg base N qual scope f cdv A outer s H E) body t ∧ t { nx := fun _ H' => Q .non H', rt := Q } (start N vs) H
section
variable {P : Program} {w : World} {K : PySem.W.Frag} {mg : Str → Option Value} {base : Heap} {x qual : Str} {params : Arguments} {body : List Stmt} {scope : Scope} {f C : Addr} {fd : FuncData} {N ps : List Str} {k : Nat} {sp : Sp} {dvs : List V} {kws : List (Str × V)}
theorem fnx_of (F : FunD K x qual params body scope dvs kws f fd) (S : FnScope N ps scope) (len : ∀ vs H Q E, sp vs H Q E → vs.length = ps.length) (hb : BodyX P w K mg base k N qual body scope f sp) : FnOk P w K mg base (L2.CX P w) (k + 1) f fd ps sp :=
  F.ok S len fun cdv A outer s H vs Q E hr hsp => hb cdv A outer s H vs Q E hr hsp (takes_of rfl rfl rfl rfl)
theorem calx_of (F : FunD K x x params body scope [] [] f fd) (hm : mg x = some (.ref f)) (b : Binds K fd ps []) (S : FnScope N ps scope) (len : ∀ vs H Q E, sp vs H Q E → vs.length = ps.length) (hb : BodyX P w K mg base k N x body scope f sp) : CalX P w K mg base (k + 1) x sp :=
  ⟨f, fd, ps, fnx_of F S len hb, hm, F.kp, b⟩
theorem metx_of (F : FunD K x qual params body scope dvs kws f fd) (c : Cls K C) (me : Meth K C x f) (b : Binds K fd ps []) (S : FnScope N ps scope) (len : ∀ vs H Q E, sp vs H Q E → vs.length = ps.length) (hb : BodyX P w K mg base k N qual body scope f sp) : MetX P w K mg base (k + 1) C x sp :=
  ⟨f, fd, ps, c, me, fnx_of F S len hb, b⟩
end
section
variable {X : Cx} {k j : Nat} {C : Addr} {x m : Str} {sp : Sp} {p pos apos : Pos} {e o : Expr} {es : List Expr} {ta : TE} {t : TA} {W : WX} {E : XK}
theorem pe_cx (c : CalX X.prog X.w X.K X.mg X.base k x sp) (tk : Takes X W) (hW : ∀ cls d σ H, E cls d H → W cls d σ H) (hr : Room j X.A) (hk : k ≤ j) (hg : Gl X x) (ha : PA X (e :: es) t) (form : Flat X x e es pos := by exact ⟨by decide, rfl, rfl⟩) :
    PE X (.Call (.Name x p) (e :: es) [] pos) (tCall sp [] E t) :=
  let ⟨_, _, _, F, at_, kept, b⟩ := c.ex
  pe_call F (hr.mono hk) hg at_ kept b .nil (passes_call tk hW) ha form.dbg form.first form.plain
theorem pe_mx {pl : Sem Bool} (c : MetX X.prog X.w X.K X.mg X.base k C m sp) (tk : Takes X W) (hW : ∀ cls d σ H, E cls d H → W cls d σ H) (hr : Room j X.A) (hk : k ≤ j) (he : PE X o ta) (ha : PA X (e :: es) t) (form : MeForm X pl o e es m apos pos := by exact ⟨rfl, rfl, rfl⟩) :
    PE X (.Call (.Attribute o m apos) (e :: es) [] pos) (tMeth C m sp [] E ta t) :=
  let ⟨_, _, _, cls, me, F, b⟩ := c.ex
  pe_meth (pl := pl) he cls me F (hr.mono hk) b .nil (passes_call tk hW) ha form.first form.plain form.steps
end
/-! ### the head: facts, one more Bool, the tables of some defs -/
def frY (g : Addr → Option Obj) (n : Nat) : PySem.W.Frag := He.frT g (He.asD g n ++ [cStatics])
structure SaysY (fa : List He.Fa) (fn : List He.DefD) (tf : List He.Defn) (ex : PySem.W.Frag → Bool) (h : Heap) (K : PySem.W.Frag) : Prop where
  d : He.SaysD fa fn K
  more : ex K = true
  code : ∀ p ∈ tf, PySem.W.codeHdIn K (He.cT K p).1 (He.cT K p).2 = true
  out : ∀ p ∈ tf, K.lookup (He.cT K p).2 = none
  empty : ∀ p ∈ tf, h.get? (He.cT K p).2 = some { cls := .none, data := .fields #[] }
abbrev AlY : Type := He.AlD × Bool
def obsY (n : Nat) (fa : List He.Fa) (fn : List He.DefD) (tf : List He.Defn) (ex : PySem.W.Frag → Bool) (g : Addr → Option Obj) : AlY := (He.obsD fa fn (frY g n), ex (frY g n) && He.tabsB g tf (frY g n))
theorem saysY_of {n : Nat} {fa : List He.Fa} {fn : List He.DefD} {tf : List He.Defn} {ex : PySem.W.Frag → Bool} {h : Heap} (e : obsY n fa fn tf ex h.get? = (He.valD fn, true)) : SaysY fa fn tf ex h (frY h.get? n) := by
  have e1 : He.obsD fa fn (frY h.get? n) = He.valD fn := congrArg (fun z : AlY => z.1) e
  have e2 : (ex (frY h.get? n) && He.tabsB h.get? tf (frY h.get? n)) = true := congrArg (fun z : AlY => z.2) e
  obtain ⟨h1, h2⟩ := Bool.and_eq_true_iff.mp e2
  have tab : ∀ p ∈ tf, PySem.W.codeHdIn (frY h.get? n) (He.cT (frY h.get? n) p).1 (He.cT (frY h.get? n) p).2 = true ∧ ∃ o, h.get? (He.cT (frY h.get? n) p).2 = some o ∧ He.emptyTab o = true := fun p hp => by
    obtain ⟨h3, h4⟩ := Bool.and_eq_true_iff.mp (List.all_eq_true.mp h2 p hp)
    refine ⟨h3, ?_⟩
    cases q : h.get? (He.cT (frY h.get? n) p).2 with
    | none => rw [q] at h4; cases h4
    | some o => rw [q] at h4; exact ⟨o, rfl, h4⟩
  refine ⟨e1, h1, fun p hp => (tab p hp).1, fun p hp => ?_, fun p hp => ?_⟩
  · obtain ⟨_, o, q, z⟩ := tab p hp
    exact He.frT_none q z
  · obtain ⟨_, o, q, z⟩ := tab p hp
    rw [q]
    exact congrArg some (He.emptyTab_eq z)
def hookY (n : Nat) (fa : List He.Fa) (fn : List He.DefD) (tf : List He.Defn) (ex : PySem.W.Frag → Bool) : PySem.W.Hook where
  α := AlY
  obs := fun s => obsY n fa fn tf ex s.heap.get?
  val := fun _ => (He.valD fn, true)
  says := fun _ h => ∃ K : PySem.W.Frag, K.In h ∧ SaysY fa fn tf ex h K
  of := fun _ _ e => ⟨_, He.frT_in, saysY_of e⟩
  keeps := fun _ _ _ ⟨K, hK, c⟩ k => ⟨K, hK.keeps k, c.d, c.more, c.code, c.out, fun p hp => k _ _ (c.empty p hp)⟩
theorem obsY_eq {n : Nat} {fa : List He.Fa} {fn : List He.DefD} {tf : List He.Defn} {ex : PySem.W.Frag → Bool} {g : Addr → Option Obj} {s : Shared} (h : ∀ a, g a = s.heap.get? a) : obsY n fa fn tf ex g = (hookY n fa fn tf ex).obs s := by
  have e : g = s.heap.get? := funext h
  rw [e]
  rfl
def clsDefB (K : PySem.W.Frag) (C f : Addr) (m : Str) : Bool := PySem.W.readsIn K C (.type "type") && (decide (PySem.W.specialIn K (.ref C) "__getattribute__" = some (some (.builtin "type.__getattribute__"))) && (match PySem.W.findCls K (.ref C) (.type "type") m with
  | some (.val (.ref g)) => decide (g = f)
  | _ => false))
theorem clsDefB_ok {K : PySem.W.Frag} {C f : Addr} {m : Str} (h : clsDefB K C f m = true) : ClsDef K C f m := by
  obtain ⟨h1, h⟩ := Bool.and_eq_true_iff.mp h
  obtain ⟨h2, h3⟩ := Bool.and_eq_true_iff.mp h
  refine ⟨h1, of_decide_eq_true h2, ?_⟩
  split at h3
  · rename_i g e
    rw [e, of_decide_eq_true h3]
  · cases h3
/-- the __init__ of an own class -/
structure InitAt (K : PySem.W.Frag) (C f : Addr) : Prop where
  find : PySem.W.findIn K (.ref C) "__init__" = some (some (.ref f))
  fn : PySem.W.typeIn K (.ref f) = some (.type "function")
def initB (K : PySem.W.Frag) (C : Addr) : Bool := decide (PySem.W.findIn K (.ref C) "__init__" = some (some (.ref (He.ma K C "__init__")))) && decide (PySem.W.typeIn K (.ref (He.ma K C "__init__")) = some (.type "function"))
theorem initB_ok {K : PySem.W.Frag} {C : Addr} (h : initB K C = true) : InitAt K C (He.ma K C "__init__") :=
  let ⟨h1, h2⟩ := Bool.and_eq_true_iff.mp h
  ⟨of_decide_eq_true h1, of_decide_eq_true h2⟩
/-- a def with defaults, all parameters handed in -/
theorem bindsD {K : PySem.W.Frag} {x qual : Str} {params : Arguments} {body : List Stmt} {scope : Scope} {dvs : List V} {kws : List (Str × V)} {f : Addr} {fd : FuncData} {ps : List Str} (F : FunD K x qual params body scope dvs kws f fd)
    (h : ∀ (dV kV doc pm : Value) (an : Option Addr) (cdv ct : Value) (us : List Value), us.length = ps.length → bindArgs (PySem.W.fnOf x qual params body scope dV kV doc pm an cdv ct) ⟨us, []⟩ = pure (ps.zip us)) : Binds K fd ps [] := by
  obtain ⟨_, _, dV, kV, doc, pm, an, cdv, ct, _, rfl, _⟩ := F.ex
  exact .all (h dV kV doc pm an cdv ct)
def viB (K : PySem.W.Frag) (b i : String) : Bool := match PySem.W.findCls K (.type b) (.type "type") "__init__" with
  | some (.val (.builtin j)) => decide (j = i)
  | _ => false
theorem viB_ok {K : PySem.W.Frag} {b i : String} (h : viB K b i = true) : PySem.W.findCls K (.type b) (.type "type") "__init__" = some (.val (.builtin i)) := by
  unfold viB at h
  split at h
  · rename_i j e
    rw [e, of_decide_eq_true h]
  · cases h
end Tw

set_option maxHeartbeats 4000000
/-! own exception classes over any of some built-in ones: made, stored into, raised. The class is read off by the library's excInitIn, excOver, hasDictIn; the store goes by osa_openX. -/
namespace Tw
open PySem PySem.Spec PyProof.Rows L2
/-- a built-in class of exceptions: its name, its makers, the line of its elders -/
structure Bs where
  name : String
  newId : String
  initId : String
  tail : List Value
structure BsOk (b : Bs) : Prop where
  fac : ExcBaseFacts b.name b.newId b.initId b.tail
  sto : StoreFacts b.name b.tail "object.__setattr__" "object"
  typ : typeOf (.type b.name) = pure (.type "type")
  stub : Manifest.isStub b.name = false
abbrev bVE : Bs := ⟨"ValueError", "ValueError.__new__", "ValueError.__init__", [.type "ValueError", .type "Exception", .type "BaseException", .type "object"]⟩
abbrev bLE : Bs := ⟨"LookupError", "LookupError.__new__", "LookupError.__init__", [.type "LookupError", .type "Exception", .type "BaseException", .type "object"]⟩
abbrev bRE : Bs := ⟨"RuntimeError", "RuntimeError.__new__", "RuntimeError.__init__", [.type "RuntimeError", .type "Exception", .type "BaseException", .type "object"]⟩
abbrev bIE : Bs := ⟨"IndexError", "IndexError.__new__", "IndexError.__init__", [.type "IndexError", .type "LookupError", .type "Exception", .type "BaseException", .type "object"]⟩
theorem bb_ValueError : bootBuiltins "ValueError" = some (.type "ValueError") := by decide +kernel
theorem bb_LookupError : bootBuiltins "LookupError" = some (.type "LookupError") := by decide +kernel
theorem bb_RuntimeError : bootBuiltins "RuntimeError" = some (.type "RuntimeError") := by decide +kernel
theorem bb_IndexError : bootBuiltins "IndexError" = some (.type "IndexError") := by decide +kernel
theorem bVE_ok : BsOk bVE := ⟨F.excBase_ValueError, F.store_ValueError, by kernel_rfl, by decide +kernel⟩
theorem bIE_ok : BsOk bIE := ⟨F.excBase_IndexError, F.store_IndexError, by kernel_rfl, by decide +kernel⟩
theorem bLE_ok : BsOk bLE := ⟨F.excBase_LookupError, F.store_LookupError, by kernel_rfl, by decide +kernel⟩
theorem bRE_ok : BsOk bRE := ⟨F.excBase_RuntimeError, F.store_RuntimeError, by kernel_rfl, by decide +kernel⟩
/-- what the written part says of an own class over b -/
structure OxC (b : Bs) (K : PySem.W.Frag) (C : Addr) : Prop where
  ok : BsOk b
  makes : PySem.W.excInitIn K C b.tail b.newId = true
  over : PySem.W.excOver K C b.tail = true
  dict : PySem.W.hasDictIn K C = true
  store : PySem.W.findIn K (.ref C) "__setattr__" = some (some (.builtin "object.__setattr__"))
  exc : PySem.W.subIn K (.ref C) (.type "BaseException") = some true
  typ : PySem.W.typeIn K (.ref C) = some (.type "type")
  keep : PySem.W.keepIn K (.ref C) = true
def oxB (b : Bs) (K : PySem.W.Frag) (C : Addr) : Bool :=
  [PySem.W.excInitIn K C b.tail b.newId, PySem.W.excOver K C b.tail, PySem.W.hasDictIn K C, decide (PySem.W.findIn K (.ref C) "__setattr__" = some (some (.builtin "object.__setattr__"))), decide (PySem.W.subIn K (.ref C) (.type "BaseException") = some true), decide (PySem.W.typeIn K (.ref C) = some (.type "type")), PySem.W.keepIn K (.ref C)].all id
theorem oxB_ok {b : Bs} (okb : BsOk b) {K : PySem.W.Frag} {C : Addr} (h : oxB b K C = true) : OxC b K C := by
  simp only [oxB, List.all_cons, List.all_nil, id, Bool.and_true, Bool.and_eq_true, decide_eq_true_eq] at h
  obtain ⟨q1, q2, q3, q4, q5, q6, q7⟩ := h
  exact ⟨okb, q1, q2, q3, q4, q5, q6, q7⟩
section
variable {b : Bs} {X : Cx} {pins : List (Addr × Obj)} {σ : L2.St} {H : Hp} {s : Shared} {a C dx : Addr} {f : Str} {y : V} {u : Value} {fs : List (Str × V)} {E : Value → Shared → Prop} {A : Around}
theorem taker0 {K : PySem.W.Frag} (no : PySem.W.findIn K (.ref C) f = some none) : PySem.W.takerIn K C f = some none := by
  unfold PySem.W.takerIn
  rw [no]
  rfl
/-- the first field: a dict is laid, then the exception is made to hold it -/
theorem oxs_first {Q : Unit → Shared → Prop} (T : OxC b X.K C) (I : Inv X pins σ H s) (e : H a = some (exo a C none)) (no : PySem.W.findIn X.K (.ref C) f = some none) (ry : RelV y u)
    (h : ∀ dx s', H dx = none → dx ≠ a → Inv X pins σ (upd (upd H dx (exd dx [(f, y)])) a (exo a C (some dx))) s' → Q () s') : wpAny (model X.prog X.w) A (setAttr (.ref a) f u) Q E s := by
  obtain ⟨t1, old⟩ := exo_at I.hok e
  obtain ⟨hp, g, d, t, os⟩ := s
  obtain ⟨cd, hc, hd⟩ := PySem.W.any_some T.dict
  have ne : a ≠ hp.objs.size := Nat.ne_of_lt (Heap.lt_size old)
  refine PySem.W.set_plain (od := none) I.kIn ⟨old, rfl, rfl, trivial⟩ T.store (PySem.W.osa_openX (od := none) T.ok.sto I.kIn ⟨old, rfl, rfl, trivial⟩ T.over (taker0 no) fun _ => ?_)
  refine wpAny_bind (wpAny_pure (wpAny_bind (PySem.W.instanceDict_exc old (PySem.W.looks_clsIn I.kIn hc) hd ?_)))
  have held : ((hp.push (PySem.W.dictOf [] 0)).update a fun o => { o with dict := some hp.objs.size }).get? a = some { cls := .ref C, dict := some hp.objs.size, data := .fields #[.ref t1, .none, .none, .none, .bool false, .none] } := Heap.get?_update_self _ (Heap.get?_push_of_some _ old) rfl
  refine HandSPX.store_in_new ⟨_, #[], _, (Heap.get?_update_ne _ _ _ _ ne.symm).trans (Heap.get?_push_at rfl rfl), rfl, fun e he => absurd he (by simp), fun _ => rfl⟩ fun h' tk' hn hs => ?_
  have atA : h'.get? a = _ := (hs.2 a ne).trans held
  -- the heap between: the dict filled, the exception not yet touched
  have back : (h'.update a fun _ => { cls := .ref C, dict := none, data := .fields #[.ref t1, .none, .none, .none, .bool false, .none] }).get? a = some { cls := .ref C, dict := none, data := .fields #[.ref t1, .none, .none, .none, .bool false, .none] } := Heap.get?_update_self _ atA rfl
  have mid := I.laid (h' := h'.update a fun _ => { cls := .ref C, dict := none, data := .fields #[.ref t1, .none, .none, .none, .bool false, .none] }) (t' := tk') (o := exd hp.objs.size [(f, y)]) (fun c o q => ?_) (Nat.le_refl _)
    (exd_ok (hn.at fun o q => (Heap.get?_update_ne _ _ _ _ ne.symm).trans q) (relO_put (fs := []) ry fun _ => True.intro))
  · refine h hp.objs.size _ (I.hok.fresh (Nat.le_refl _)) ne.symm (mid.write (h' := h') (t' := tk') (x := a) (e := a) (o := exo a C (some hp.objs.size)) (by rw [upd_ne ne, e]; exact True.intro) (.inl rfl) (fun c o hc q => ?_) ⟨_, atA⟩ (exo_ok atA))
    exact (Heap.get?_update_ne _ _ _ _ hc).symm.trans q
  · by_cases hca : c = a
    · subst hca
      rw [back]
      exact old.symm.trans q
    · rw [Heap.get?_update_ne _ _ _ _ hca, hs.2 c (Nat.ne_of_lt (Heap.lt_size q)), Heap.get?_update_ne _ _ _ _ hca]
      exact Heap.get?_push_of_some _ q
/-- a further field -/
theorem oxs_more {Q : Unit → Shared → Prop} (T : OxC b X.K C) (I : Inv X pins σ H s) (e : H a = some (exo a C (some dx))) (ed : H dx = some (exd dx fs)) (hl : fs.length ≤ 900) (no : PySem.W.findIn X.K (.ref C) f = some none) (ry : RelV y u) (h : ∀ s', Inv X pins σ (upd H dx (exd dx ((f, y) :: fs))) s' → Q () s') :
    wpAny (model X.prog X.w) A (setAttr (.ref a) f u) Q E s := by
  obtain ⟨t1, old⟩ := exo_at I.hok e
  obtain ⟨m0, ns, rel⟩ := exd_at I.hok ed
  obtain ⟨hp, g, d, t, os⟩ := s
  obtain ⟨cd, hc, hd⟩ := PySem.W.any_some T.dict
  obtain ⟨od, _, _, atD, _⟩ := ns.count (within_of rel)
  refine PySem.W.set_plain (od := some od) I.kIn ⟨old, rfl, rfl, atD⟩ T.store (PySem.W.osa_openX (od := some od) T.ok.sto I.kIn ⟨old, rfl, rfl, atD⟩ T.over (taker0 no) fun _ => ?_)
  refine wpAny_bind (wpAny_pure (wpAny_bind (wpAny_bind (wpAny_loadPart old (wpAny_bind ((PySem.W.looks_clsIn I.kIn hc).at ?_))))))
  rw [hd]
  refine wpAny_pure (a := some dx) (PySem.OEX.store_in_old ns (within_of rel) (by rw [List.length_map]; omega) fun h' tk' hn hs => ?_)
  obtain ⟨_, _, _, there, _⟩ := id hn
  exact h _ (I.write (t' := tk') (x := dx) (e := dx) (o := exd dx ((f, y) :: fs)) (by rw [ed]; exact True.intro) (.inl rfl) (fun c o hc q => (hs.2 c hc).trans q) ⟨_, there⟩ (exd_ok hn (relO_put ry rel)))
theorem upd_idem {o : HO} (e : H a = some o) : upd H a o = H := funext fun c => by
  by_cases hc : c = a
  · subst hc
    exact upd_same.trans e.symm
  · exact upd_ne hc
/-- B.__init__ of the built-in class: the exception keeps its shape -/
theorem ox_init {us : List Value} {Q : Value → Shared → Prop} (T : OxC b X.K C) (I : Inv X pins σ H s) (e : H a = some (exo a C none)) (hl : us.length ≤ sizeLine) (h : ∀ s', Inv X pins σ H s' → Q .none s') : wpAny (model X.prog X.w) A (call (.builtin b.initId) (.ref a :: us)) Q E s := by
  obtain ⟨_, _, _, _, _, _, _, _, _, _, _, _, _, _, _, _, cls, line⟩ := PySem.W.excInit_of I.kIn T.makes
  obtain ⟨t1, old⟩ := exo_at I.hok e
  obtain ⟨hp, g, d, t, os⟩ := s
  refine wpAny_call (PySem.HandSPX.init_base T.ok.fac line cls old hl fun h' t2 k new => h _ ?_)
  have J := I.write (t' := t) (x := a) (e := a) (o := exo a C none) (by rw [e]; exact True.intro) (.inl rfl) k ⟨_, new⟩ (exo_ok new)
  rwa [upd_idem e] at J
end
/-- B.__init__(self, ..), B the built-in one -/
def tBi (b : Bs) (K : PySem.W.Frag) (ta : TA) : TE := fun σ H Q => ta σ H fun vs H1 => ∃ (a C : Addr) (ws : List V), vs = .ref a :: ws ∧ ws.length ≤ 1000 ∧ OxC b K C ∧ H1 a = some (exo a C none) ∧ Q .non H1
/-- self.f = e -/
def tOx (b : Bs) (K : PySem.W.Frag) (f : Str) (to te : TE) : TS := fun D σ H => te σ H fun y H1 => to σ H1 fun x H2 => ∃ a C : Addr, x = .ref a ∧ OxC b K C ∧ PySem.W.findIn K (.ref C) f = some none ∧
  ((H2 a = some (exo a C none) ∧ ∀ dx, H2 dx = none → dx ≠ a → D.nx σ (upd (upd H2 dx (exd dx [(f, y)])) a (exo a C (some dx)))) ∨ ∃ (dx : Addr) (fs : List (Str × V)), H2 a = some (exo a C (some dx)) ∧ H2 dx = some (exd dx fs) ∧ fs.length ≤ 900 ∧ D.nx σ (upd H2 dx (exd dx ((f, y) :: fs))))
section
variable {b : Bs} {X : Cx} {o e : Expr} {es : List Expr} {to te : TE} {ta : TA} {f x : Str} {p p' p1 p2 pos : Pos} {pl : Sem Bool}
theorem pe_binit (okb : BsOk b) (hv : bootBuiltins x = some (.type b.name)) (hg : Gl X x) (hm : X.mg x = none) (vV : PySem.W.findCls X.K (.type b.name) (.type "type") "__init__" = some (.val (.builtin b.initId))) (hh : PySem.W.handedIn (.builtin b.initId) = true) (ha : PA X (e :: es) ta)
    (form : MeForm X pl (.Name x p1) e es "__init__" p2 pos := by exact ⟨rfl, rfl, rfl⟩) (hn : x ≠ "__name__" := by decide) (hdb : (x == ("__debug__" : Str)) = false := by decide) :
    PE X (.Call (.Attribute (.Name x p1) "__init__" p2) (e :: es) [] pos) (tBi b X.K ta) := by
  constructor
  intro pins s σ H Q I h
  obtain ⟨_, fr⟩ := I.fr
  refine PySem.W.methodCall_KW (pl := pl) (ld_blt I hg hm hv (PySem.W.method_type fr I.ok.mod.kin okb.typ okb.stub vV hh ?_) hn hdb) form.steps
  refine PyProof.Rows.callWith_method1 (thn (ha.run pos pins _ σ H _ (I.tok _) h) ?_) form.first form.plain
  rintro _ s1 ⟨_, H1, I1, rel, a, C, ws, rfl, hl, T, ea, q⟩
  cases rel with
  | cons ra rr =>
    cases (show _ = Value.ref a from ra)
    exact ox_init T I1 ea (Nat.le_trans (Nat.le_of_eq (Paired.length rr).symm) (by rw [sizeLine_eq]; omega)) fun s' J => ⟨.non, H1, J, rfl, q⟩
theorem ps_ox (ho : PE X o to) (he : PE X e te) (hs : swapsWith e (some (.Attribute o f p')) pos.line X.env = pure false := by rfl) : PS X (.Assign [.Attribute o f p'] e pos) (tOx b X.K f to te) := by
  constructor
  intro pins s σ H D I h
  refine plainObj_wpAny_Assign_Attribute (thn (he.run pins s σ H _ I h) ?_) hs
  rintro v s1 ⟨y, H1, I1, ry, q1⟩
  refine thn (ho.run pins s1 σ H1 _ I1 q1) ?_
  rintro _ s2 ⟨_, H2, I2, ro, a, C, rfl, T, no, new | more⟩ <;> cases (show _ = Value.ref a from ro)
  · exact oxs_first T I2 new.1 no ry fun dx s' n ne J => ⟨σ, _, J, new.2 dx n ne⟩
  · obtain ⟨dx, fs, ea, ed, hl, q⟩ := more
    exact oxs_more T I2 ea ed hl no ry fun s' J => ⟨σ, _, J, q⟩
/-- an own exception class over b that is made by its name -/
structure MkB (b : Bs) (P : Program) (w : World) (K : PySem.W.Frag) (mg : Str → Option Value) (base : Heap) (k : Nat) (x : Str) (C : Addr) (sp : Sp) : Prop where
  ex : ∃ (f : Addr) (fd : FuncData) (ps : List Str), OxC b K C ∧ InitAt K C f ∧ FnOk P w K mg base CX0 k f fd ps sp ∧ mg x = some (.ref C) ∧ Binds K fd ps []
theorem pmk_b {k j : Nat} {C : Addr} {sp : Sp} (c : MkB b X.prog X.w X.K X.mg X.base k x C sp) (hr : Room j X.A) (hk : k + 1 ≤ j) (hg : Gl X x) (ha : PA X (e :: es) ta) (form : Flat X x e es pos := by exact ⟨by decide, rfl, rfl⟩) : PMk X (.Call (.Name x p) (e :: es) [] pos) (tMkO C sp [] ta) := by
  intro pins s σ H Q I h
  obtain ⟨init, fd, ps, T, at_, F0, hm, bnd⟩ := c.ex
  have F := F0.raw bnd .nil
  refine wpAny_Call_Name_kw (ld_glob I hg hm (PySem.W.callWith_K (h₀ := X.base) I.ok.mod.kin T.keep (thn (ha.run pos pins s σ H _ I h) ?_) form.first form.plain) form.dbg)
  rintro us ⟨hp, g, d, t, os⟩ ⟨vs, H1, I1, rel, few, q⟩
  refine ⟨I1.kIn, ?_⟩
  obtain ⟨_, _, _, _, _, _, _, _, _, _, _, _, _, _, _, _, cls, line⟩ := PySem.W.excInit_of I1.kIn T.makes
  -- the args' tuple and the exception lie behind one another
  have next : hp.objs.size ≤ hp.objs.size + 1 := Nat.le_succ _
  have kept : ∀ c o, hp.get? c = some o → ((hp.push (PySem.W.kdv_tup us)).push (PySem.HandSPX.excO C hp.objs.size)).get? c = some o := fun c o z => Heap.get?_push_of_some _ (Heap.get?_push_of_some _ z)
  have I2 := I1.laid (h' := (hp.push (PySem.W.kdv_tup us)).push (PySem.HandSPX.excO C hp.objs.size)) (t' := t) (o := exo (hp.objs.size + 1) C none) kept next (exo_ok (t1 := hp.objs.size) (by heap_get))
  have fits : us.length ≤ sizeLine := Nat.le_trans (Nat.le_of_eq (Paired.length rel).symm) (by rw [sizeLine_eq]; omega)
  have ran := F _ X.stack _ _ (.ref (hp.objs.size + 1) :: us) (.ref (hp.objs.size + 1) :: vs) _ E0 ((hr.mono hk).make C us []) (I2.env0.make C us []) (.cons rfl rel) (q _ (I1.hok.fresh next))
  refine wpAny_call (PySem.HandSPX.call_own T.ok.fac line cls (PySem.W.looks_findIn I1.kIn at_.find) (fun self => PySem.W.bind_fn I1.kIn self at_.fn) fits (codeAny_mono ran ?_))
  rintro (_ | (_ | _ | _ | _)) ⟨h2, g2, d2, t2, os2⟩ z <;> first
    | exact False.elim z
    | (obtain ⟨_, H2, os', bare, un, hok, rv, rfl, dd, fs, ea, ed, new, q2⟩ := z
       exact ⟨rv, mk_end (raises_own T.exc T.typ) I1 next kept un hok os' bare ea ed new q2⟩)
end
end Tw

set_option maxHeartbeats 4000000
/-! a head that looks only at the globals that are wanted, and what hangs on them; of some at nothing but themselves -/
namespace Tw
open PySem PySem.Spec PyProof.Rows L2
/-- what is met anew, with the marks of all that was met (a number's bits: no list is searched) -/
def metZ (p : Nat × List Addr) (a : Addr) : Nat × List Addr := match p with
  | (m, l) => cond (Nat.beq (Nat.land (Nat.shiftRight m a) 1) 1) (m, l) (Nat.lor m (Nat.shiftLeft 1 a), a :: l)
def nextZ (g : Addr → Option Obj) (m : Nat) (f : List Addr) : Nat × List Addr := f.foldl (fun p a => match g a with
  | some o => (He.refsD o).foldl metZ p
  | none => p) (m, [])
/-- what the addresses f reach in n steps -/
def goZ (g : Addr → Option Obj) : Nat → Nat → List Addr → List Addr
  | 0, _, f => f
  | n + 1, m, f => match nextZ g m f with
    | (m', f') => f ++ goZ g n m' f'
/-- what is wanted: with all that it reaches in n steps; with what it holds itself (defs: their code); as it is -/
abbrev Want : Type := List Str × List Str × List Str
/-- never back into the globals -/
def asZ (g : Addr → Option Obj) (want : Want) (n : Nat) : List Addr := match (want.1.map (He.ga (He.frT g [mainGlobals]))).foldl metZ (Nat.shiftLeft 1 mainGlobals, []) with
  | (m, f) => (want.2.1.map (He.ga (He.frT g [mainGlobals]))).flatMap (fun a => a :: match g a with
    | some o => (He.refsD o).filter fun b => !(Nat.beq b mainGlobals)
    | none => []) ++ goZ g n m f.reverse
def frZ (g : Addr → Option Obj) (want : Want) (n : Nat) : PySem.W.Frag := He.frT g (mainGlobals :: (asZ g want n ++ (want.2.2.map (He.ga (He.frT g [mainGlobals])) ++ [cStatics])))
def obsZ (n : Nat) (want : Want) (fa : List He.Fa) (fn : List He.DefD) (tf : List He.Defn) (ex : PySem.W.Frag → Bool) (g : Addr → Option Obj) : AlY := (He.obsD fa fn (frZ g want n), ex (frZ g want n) && He.tabsB g tf (frZ g want n))
theorem saysZ_of {n : Nat} {want : Want} {fa : List He.Fa} {fn : List He.DefD} {tf : List He.Defn} {ex : PySem.W.Frag → Bool} {h : Heap} (e : obsZ n want fa fn tf ex h.get? = (He.valD fn, true)) : SaysY fa fn tf ex h (frZ h.get? want n) := by
  have e1 := congrArg (fun z : AlY => z.1) e
  obtain ⟨m1, m2⟩ := Bool.and_eq_true_iff.mp (congrArg (fun z : AlY => z.2) e)
  have at_ : ∀ p ∈ tf, PySem.W.codeHdIn (frZ h.get? want n) (He.cT (frZ h.get? want n) p).1 (He.cT (frZ h.get? want n) p).2 = true ∧ ∃ o, h.get? (He.cT (frZ h.get? want n) p).2 = some o ∧ He.emptyTab o = true := by
    intro p hp
    obtain ⟨c1, c2⟩ := Bool.and_eq_true_iff.mp (List.all_eq_true.mp m2 p hp)
    revert c2
    cases h.get? (He.cT (frZ h.get? want n) p).2 with
    | none => exact fun z => nomatch z
    | some o => exact fun z => ⟨c1, o, rfl, z⟩
  refine ⟨e1, m1, fun p hp => (at_ p hp).1, fun p hp => ?_, fun p hp => ?_⟩
  · obtain ⟨_, o, q, z⟩ := at_ p hp
    exact He.frT_none q z
  · obtain ⟨_, o, q, z⟩ := at_ p hp
    rw [q, He.emptyTab_eq z]
def hookZ (n : Nat) (want : Want) (fa : List He.Fa) (fn : List He.DefD) (tf : List He.Defn) (ex : PySem.W.Frag → Bool) : PySem.W.Hook where
  α := AlY
  obs := fun s => obsZ n want fa fn tf ex s.heap.get?
  val := fun _ => (He.valD fn, true)
  says := fun _ h => ∃ K : PySem.W.Frag, K.In h ∧ SaysY fa fn tf ex h K
  of := fun _ _ e => ⟨_, He.frT_in, saysZ_of e⟩
  keeps := fun _ _ _ ⟨K, hK, c⟩ k => ⟨K, hK.keeps k, c.d, c.more, c.code, c.out, fun p hp => k _ _ (c.empty p hp)⟩
theorem obsZ_eq {n : Nat} {want : Want} {fa : List He.Fa} {fn : List He.DefD} {tf : List He.Defn} {ex : PySem.W.Frag → Bool} {g : Addr → Option Obj} {s : Shared} (h : ∀ a, g a = s.heap.get? a) : obsZ n want fa fn tf ex g = (hookZ n want fa fn tf ex).obs s := by
  rw [show g = s.heap.get? from funext h]
  rfl
/-! .. with dicts of the top whose keys are texts -/
structure SaysW (fa : List He.Fa) (fn : List He.DefD) (tf : List He.Defn) (ex : PySem.W.Frag → Bool) (tb : List He.Tab) (w : World) (h : Heap) (K : PySem.W.Frag) : Prop where
  y : SaysY fa fn tf ex h K
  tab : ∀ t ∈ tb, ∃ es n, KDict K w (t.1 K) es n
  tabo : ∀ t ∈ tb, He.dicW K (t.1 K) = some (He.keysIn w.params t.2)
abbrev AlW : Type := AlY × List (Option (List (Option (Str × Int))))
def obsW (n : Nat) (want : Want) (fa : List He.Fa) (fn : List He.DefD) (tf : List He.Defn) (ex : PySem.W.Frag → Bool) (tb : List He.Tab) (g : Addr → Option Obj) : AlW := (obsZ n want fa fn tf ex g, tb.map fun t => He.dicW (frZ g want n) (t.1 (frZ g want n)))
def valW (fn : List He.DefD) (tb : List He.Tab) (w : World) : AlW := ((He.valD fn, true), tb.map fun t => some (He.keysIn w.params t.2))
theorem saysW_of {n : Nat} {want : Want} {fa : List He.Fa} {fn : List He.DefD} {tf : List He.Defn} {ex : PySem.W.Frag → Bool} {tb : List He.Tab} {w : World} {h : Heap} (e : obsW n want fa fn tf ex tb h.get? = valW fn tb w) : SaysW fa fn tf ex tb w h (frZ h.get? want n) := by
  have e2 : (tb.map fun t => He.dicW (frZ h.get? want n) (t.1 (frZ h.get? want n))) = tb.map fun t => some (He.keysIn w.params t.2) := congrArg Prod.snd e
  exact ⟨saysZ_of (congrArg Prod.fst e), fun t ht => He.dicW_ok (ks := t.2) (List.map_inj_left.mp e2 t ht), fun t ht => List.map_inj_left.mp e2 t ht⟩
def hookW (n : Nat) (want : Want) (fa : List He.Fa) (fn : List He.DefD) (tf : List He.Defn) (ex : PySem.W.Frag → Bool) (tb : List He.Tab) : PySem.W.Hook where
  α := AlW
  obs := fun s => obsW n want fa fn tf ex tb s.heap.get?
  val := fun w => valW fn tb w
  says := fun w h => ∃ K : PySem.W.Frag, K.In h ∧ SaysW fa fn tf ex tb w h K
  of := fun _ _ e => ⟨_, He.frT_in, saysW_of e⟩
  keeps := fun _ _ _ ⟨K, hK, c⟩ k => ⟨K, hK.keeps k, ⟨c.y.d, c.y.more, c.y.code, c.y.out, fun p hp => k _ _ (c.y.empty p hp)⟩, c.tab, c.tabo⟩
theorem obsW_eq {n : Nat} {want : Want} {fa : List He.Fa} {fn : List He.DefD} {tf : List He.Defn} {ex : PySem.W.Frag → Bool} {tb : List He.Tab} {g : Addr → Option Obj} {s : Shared} (h : ∀ a, g a = s.heap.get? a) : obsW n want fa fn tf ex tb g = (hookW n want fa fn tf ex tb).obs s := by
  rw [show g = s.heap.get? from funext h]
  rfl
/-- three looks at one end, taken one by one -/
theorem three_of {α β γ δ : Type} {o : Option α} {f : α → β} {g : α → γ} {h : α → δ} {x : β} {y : γ} {z : δ} (e1 : o.map (fun s => (f s, g s)) = some (x, y)) (e2 : o.map h = some z) : o.map (fun s => (f s, g s, h s)) = some (x, y, z) := by
  cases o with
  | none => cases e1
  | some s =>
    have h1 := Option.some.inj e1
    have h2 : h s = z := Option.some.inj e2
    show some (f s, g s, h s) = some (x, y, z)
    rw [h2, show f s = x from congrArg Prod.fst h1, show g s = y from congrArg Prod.snd h1]
end Tw

set_option maxHeartbeats 4000000
/-! dicts of the top whose values are tuples of texts; methods as bound ones -/
namespace Tw
open PySem PySem.Spec PyProof.Rows L2
def txtB : Value → Bool
  | .str _ _ => true
  | _ => false
def frmB (K : PySem.W.Frag) (d : Addr) (k : Str) (n : Nat) : Bool := match PySem.W.nsIn K d k with
  | some (some (.ref a)) => (match K.lookup a with
    | some ⟨.type "tuple", _, .seq its _, _⟩ => decide (its.size = n) && decide (n ≤ 100) && its.all txtB
    | _ => false)
  | _ => false
theorem txt_vals : ∀ {us : List Value}, us.all txtB = true → ∃ xs : List V, Vals xs us
  | [], _ => ⟨[], .nil⟩
  | u :: us, h => by
    rw [List.all_cons, Bool.and_eq_true] at h
    obtain ⟨xs, r⟩ := txt_vals h.2
    cases u with
    | str z t => exact ⟨.str z :: xs, .cons ⟨t, rfl⟩ r⟩
    | _ => cases h.1
theorem frm_ok {K : PySem.W.Frag} {d : Addr} {k : Str} {n : Nat} (h : frmB K d k n = true) : ∃ a xs, PySem.W.nsIn K d k = some (some (.ref a)) ∧ xs.length = n ∧ ∀ H, SqT K H a xs := by
  unfold frmB at h
  split at h
  · rename_i a e
    split at h
    · rename_i dd its m sl e2
      rw [Bool.and_eq_true, Bool.and_eq_true, decide_eq_true_eq, decide_eq_true_eq] at h
      obtain ⟨xs, r⟩ := txt_vals (us := its.toList) (by simpa using h.2)
      refine ⟨a, xs, e, ?_, fun H => .inr ⟨_, its, m, e2, rfl, rfl, ?_, r⟩⟩
      · rw [r.length, Array.length_toList]
        exact h.1.1
      · rw [h.1.1, sizeLine_eq]
        omega
    · cases h
  · cases h
/-- a tuple of just these texts -/
def isTxt : Value → Str → Bool
  | .str z _, x => decide (z = x)
  | _, _ => false
def allTxt : List Value → List Str → Bool
  | [], [] => true
  | u :: us, x :: xs => isTxt u x && allTxt us xs
  | _, _ => false
def frxB (K : PySem.W.Frag) (d : Addr) (k : Str) (xs : List Str) : Bool := match PySem.W.nsIn K d k with
  | some (some (.ref a)) => (match K.lookup a with
    | some ⟨.type "tuple", _, .seq its _, _⟩ => decide (its.size ≤ 100) && allTxt its.toList xs
    | _ => false)
  | _ => false
theorem allTxt_vals : ∀ {us : List Value} {xs : List Str}, allTxt us xs = true → Vals (xs.map V.str) us
  | [], [], _ => .nil
  | u :: us, x :: xs, h => by
    have h : (isTxt u x && allTxt us xs) = true := h
    rw [Bool.and_eq_true] at h
    refine .cons ?_ (allTxt_vals h.2)
    cases u with
    | str z t =>
      have e : z = x := of_decide_eq_true h.1
      subst e
      exact ⟨t, rfl⟩
    | _ => cases h.1
  | [], _ :: _, h => by cases h
  | _ :: _, [], h => by cases h
theorem frx_ok {K : PySem.W.Frag} {d : Addr} {k : Str} {xs : List Str} (h : frxB K d k xs = true) : ∃ a, PySem.W.nsIn K d k = some (some (.ref a)) ∧ ∀ H, SqT K H a (xs.map V.str) := by
  unfold frxB at h
  split at h
  · rename_i a e
    split at h
    · rename_i dd its m sl e2
      rw [Bool.and_eq_true, decide_eq_true_eq] at h
      have r := allTxt_vals h.2
      refine ⟨a, e, fun H => .inr ⟨_, its, m, e2, rfl, rfl, ?_, r⟩⟩
      rw [sizeLine_eq]
      omega
    · cases h
  · cases h
/-- a method of a class, as it is bound -/
def bmB (K : PySem.W.Frag) (f : Addr) (m : Str) : Bool := decide (PySem.W.specialIn K (.ref f) "__get__" = some (some (.builtin "function.__get__"))) && (decide (PySem.W.takesIn K (.ref f) = some false) && (!PySem.W.copiedNames.contains m && PySem.W.fnIn K f))
theorem bm_ok {K : PySem.W.Frag} {C f : Addr} {m : Str} (me : Meth K C m f) (h : bmB K f m = true) : BMeth K C m f := by
  unfold bmB at h
  rw [Bool.and_eq_true, Bool.and_eq_true, Bool.and_eq_true, decide_eq_true_eq, decide_eq_true_eq, Bool.not_eq_true'] at h
  exact ⟨me, h.1, h.2.1, h.2.2.1, h.2.2.2⟩
end Tw

set_option maxHeartbeats 4000000
/-! dicts of the top with None as their first key, texts behind it -/
namespace Tw
open PySem PySem.Spec PyProof.Rows L2
def isNon : Value → Bool
  | .none => true
  | _ => false
/-- None stands first, with a tuple of these texts -/
def nonB (K : PySem.W.Frag) (d : Addr) (xs : List Str) : Bool := match K.lookup d with
  | some ⟨_, _, .dict es _, _⟩ => (match es.toList with
    | e :: _ => isNon e.key && (decide (e.hash = reduceHash 0xFCA86420) && (match e.val with
      | .ref a => (match K.lookup a with
        | some ⟨.type "tuple", _, .seq its _, _⟩ => decide (its.size ≤ 100) && allTxt its.toList xs
        | _ => false)
      | _ => false))
    | _ => false)
  | _ => false
theorem nonB_ok {K : PySem.W.Frag} {d : Addr} {xs : List Str} (h : nonB K d xs = true) : ∀ {oc od es ep os}, K.lookup d = some ⟨oc, od, .dict es ep, os⟩ → ∃ e r a, es.toList = e :: r ∧ e.key = .none ∧ e.hash = reduceHash 0xFCA86420 ∧ e.val = .ref a ∧ ∀ H, SqT K H a (xs.map V.str) := by
  intro oc od es ep os hl
  unfold nonB at h
  rw [hl] at h
  dsimp only at h
  split at h
  · rename_i e r q
    rw [Bool.and_eq_true, Bool.and_eq_true, decide_eq_true_eq] at h
    obtain ⟨h1, h2, h3⟩ := h
    have hk : e.key = .none := by
      cases z : e.key <;> rw [z] at h1 <;> first | rfl | cases h1
    split at h3
    · rename_i a ev
      split at h3
      · rename_i dd its m sl e2
        rw [Bool.and_eq_true, decide_eq_true_eq] at h3
        refine ⟨e, r, a, q, hk, h2, ev, fun H => .inr ⟨_, its, m, e2, rfl, rfl, ?_, allTxt_vals h3.2⟩⟩
        rw [sizeLine_eq]
        omega
      · cases h3
    · cases h3
  · cases h
/-- .. as the head tells it -/
structure SaysN (fa : List He.Fa) (fn : List He.DefD) (tf : List He.Defn) (ex : PySem.W.Frag → Bool) (tb tn : List He.Tab) (w : World) (h : Heap) (K : PySem.W.Frag) : Prop where
  y : SaysY fa fn tf ex h K
  tab : ∀ t ∈ tb, ∃ es n, KDict K w (t.1 K) es n
  tabo : ∀ t ∈ tb, He.dicW K (t.1 K) = some (He.keysIn w.params t.2)
  tabn : ∀ t ∈ tn, He.dicW K (t.1 K) = some (none :: He.keysIn w.params t.2)
abbrev AlN : Type := AlW × List (Option (List (Option (Str × Int))))
def obsN (n : Nat) (want : Want) (fa : List He.Fa) (fn : List He.DefD) (tf : List He.Defn) (ex : PySem.W.Frag → Bool) (tb tn : List He.Tab) (g : Addr → Option Obj) : AlN := (obsW n want fa fn tf ex tb g, tn.map fun t => He.dicW (frZ g want n) (t.1 (frZ g want n)))
def valN (fn : List He.DefD) (tb tn : List He.Tab) (w : World) : AlN := (valW fn tb w, tn.map fun t => some (none :: He.keysIn w.params t.2))
theorem saysN_of {n : Nat} {want : Want} {fa : List He.Fa} {fn : List He.DefD} {tf : List He.Defn} {ex : PySem.W.Frag → Bool} {tb tn : List He.Tab} {w : World} {h : Heap} (e : obsN n want fa fn tf ex tb tn h.get? = valN fn tb tn w) : SaysN fa fn tf ex tb tn w h (frZ h.get? want n) := by
  have c := saysW_of (congrArg Prod.fst e)
  have e2 : (tn.map fun t => He.dicW (frZ h.get? want n) (t.1 (frZ h.get? want n))) = tn.map fun t => some (none :: He.keysIn w.params t.2) := congrArg Prod.snd e
  exact ⟨c.y, c.tab, c.tabo, fun t ht => List.map_inj_left.mp e2 t ht⟩
def hookN (n : Nat) (want : Want) (fa : List He.Fa) (fn : List He.DefD) (tf : List He.Defn) (ex : PySem.W.Frag → Bool) (tb tn : List He.Tab) : PySem.W.Hook where
  α := AlN
  obs := fun s => obsN n want fa fn tf ex tb tn s.heap.get?
  val := fun w => valN fn tb tn w
  says := fun w h => ∃ K : PySem.W.Frag, K.In h ∧ SaysN fa fn tf ex tb tn w h K
  of := fun _ _ e => ⟨_, He.frT_in, saysN_of e⟩
  keeps := fun _ _ _ ⟨K, hK, c⟩ k => ⟨K, hK.keeps k, ⟨c.y.d, c.y.more, c.y.code, c.y.out, fun p hp => k _ _ (c.y.empty p hp)⟩, c.tab, c.tabo, c.tabn⟩
theorem obsN_eq {n : Nat} {want : Want} {fa : List He.Fa} {fn : List He.DefD} {tf : List He.Defn} {ex : PySem.W.Frag → Bool} {tb tn : List He.Tab} {g : Addr → Option Obj} {s : Shared} (h : ∀ a, g a = s.heap.get? a) : obsN n want fa fn tf ex tb tn g = (hookN n want fa fn tf ex tb tn).obs s := by
  rw [show g = s.heap.get? from funext h]
  rfl
/-- a dict of the top: None first, texts behind it -/
structure NDict (K : PySem.W.Frag) (w : World) (d : Addr) (es : Array DictEntry) (n : Nat) : Prop where
  at_ : K.lookup d = some ⟨.type "dict", none, .dict es n, #[]⟩
  ok : ∀ e ∈ es.toList, ∃ k : Option Key, nkIs k e.key = true ∧ e.hash = (match k with
    | none => reduceHash 0xFCA86420
    | some k => keyH w k)
theorem ndict_of {K : PySem.W.Frag} {w : World} {d : Addr} {ks xs : List Str} (h : He.dicW K d = some (none :: He.keysIn w.params ks)) (hn : nonB K d xs = true) : ∃ es n, NDict K w d es n := by
  unfold He.dicW at h
  cases q : K.lookup d with
  | none =>
    rw [q] at h
    cases h
  | some o =>
    obtain ⟨oc, od, dt, osl⟩ := o
    rw [q] at h
    cases oc with
    | type c =>
      cases od with
      | none =>
        cases dt with
        | dict es n =>
          dsimp only at h
          split at h
          · rename_i z
            rw [Bool.and_eq_true, Bool.and_eq_true, decide_eq_true_eq] at z
            obtain ⟨z1, z2, z3⟩ := z
            subst z1
            have z2 : osl = #[] := by simpa using z2
            subst z2
            obtain ⟨e, r, a, q1, q2, q3, q4, _⟩ := nonB_ok hn q
            have h := Option.some.inj h
            rw [q1, List.map_cons] at h
            have hr := (List.cons.inj h).2
            have lit := He.keysLit_of hr
            refine ⟨es, n, q, fun e' he => ?_⟩
            rw [q1] at he
            rcases List.mem_cons.1 he with rfl | he
            · exact ⟨none, by rw [q2]; rfl, q3⟩
            · obtain ⟨x, t, e1, e2⟩ := lit.all e' he
              exact ⟨some (.inr x), by rw [e1]; exact mixKind_str default w x t, e2⟩
          · cases h
        | _ => cases h
      | some _ => cases h
    | _ => cases h
end Tw

set_option maxHeartbeats 4000000
/-! trees run in any surroundings of the top: what a top's statement does where a look would lean on hashes -/
namespace Tw
open PySem PySem.W PySem.Calls PyProof.Rows
/-- the tree T, run amid the top, comes to a, whatever stands behind it -/
def Go {α : Type} (tb : String → Option Builtin) (p : Program) (w : World) (n₀ : Nat) (ann : Option Value) (c : Code) (B : List Frame) (m : Nat) (gd : Bool → Bool) (lv : List Value → List Value) (q : Pos) (s : Shared) (T : Sem α) (q' : Pos) (s' : Shared) (a : α) : Prop :=
  ∀ (K : α → Sem Fin) (H : Value → Sem Fin) (N : Nat) (r : Shared), topRun tb p w n₀ ann N s' ⟨K a, c, q', B⟩ = some r → topRun tb p w n₀ ann (m + N) s ⟨T.wrap K H gd lv, c, q, B⟩ = some r
section
variable {α β : Type} {tb : String → Option Builtin} {p : Program} {w : World} {n₀ : Nat} {ann : Option Value} {b : List Stmt} {env : Env} {B : List Frame} {c : Code} {gd : Bool → Bool} {lv : List Value → List Value} {q q' q2 : Pos} {s s' s2 : Shared}
theorem go_pure {a : α} : Go tb p w n₀ ann c B 0 gd lv q s (pure a) q s a := fun K H N r h => by
  rw [Nat.zero_add]
  exact h
theorem go_more {m k : Nat} {T : Sem α} {a : α} (h : Go tb p w n₀ ann c B m gd lv q s T q' s' a) (l : m ≤ k) : Go tb p w n₀ ann c B k gd lv q s T q' s' a := fun K H N r z => by
  have e := topRun_mono (k - m) _ _ _ _ (h K H N r z)
  rw [show k + N = m + N + (k - m) by omega]
  exact e
theorem go_bind {m k : Nat} {T : Sem α} {f : α → Sem β} {a : α} {x : β} (h : Go tb p w n₀ ann c B m gd lv q s T q' s' a) (g : Go tb p w n₀ ann c B k gd lv q' s' (f a) q2 s2 x) : Go tb p w n₀ ann c B (m + k) gd lv q s (T >>= f) q2 s2 x := fun K H N r z => by
  rw [show m + k + N = m + (k + N) by omega]
  rw [show (T >>= f).wrap K H gd lv = T.wrap (fun a => (f a).wrap K H gd lv) H gd lv from by
    rw [Sem.bind_eq_wrap', Sem.wrap_wrap]
    rfl]
  exact h _ _ _ _ (g K H N r z)
theorem go_keep {m : Nat} {T : Sem α} {a : α} {vs : List Value} (h : Go tb p w n₀ ann c B m gd (fun l => lv (vs ++ l)) q s T q' s' a) : Go tb p w n₀ ann c B m gd lv q s (T.keep vs) q' s' a := fun K H N r z => by
  rw [show (T.keep vs).wrap K H gd lv = T.wrap K H gd (fun l => lv (vs ++ l)) from by
    rw [Sem.keep_eq_wrap, Sem.wrap_wrap]
    rfl]
  exact h _ _ _ _ z
/-- what is held besides -/
def isRfC : Value → Bool
  | .ref _ => true
  | _ => false
def heldOf (vs : List Value) (lv : List Value → List Value) : List Value → List Value := match vs.filter isRfC with
  | [] => lv
  | v :: r => fun l => lv (v :: r ++ l)
theorem holding_is (vs : List Value) (T : Sem α) : holding vs T = match vs.filter isRfC with
    | [] => T
    | v :: r => T.keep (v :: r) := by
  have e : ∀ g : Value → Bool, (∀ v, g v = isRfC v) → (match vs.filter g with
      | [] => T
      | refs => T.keep refs) = match vs.filter isRfC with
      | [] => T
      | v :: r => T.keep (v :: r) := fun g hg => by
    rw [show g = isRfC from funext hg]
    cases vs.filter isRfC <;> rfl
  exact e _ fun v => by cases v <;> rfl
theorem go_holding {m : Nat} {T : Sem α} {a : α} {vs : List Value} (h : Go tb p w n₀ ann c B m gd (heldOf vs lv) q s T q' s' a) : Go tb p w n₀ ann c B m gd lv q s (holding vs T) q' s' a := by
  rw [holding_is]
  unfold heldOf at h
  cases e : vs.filter isRfC with
  | nil =>
    rw [e] at h
    exact h
  | cons v r =>
    rw [e] at h
    exact go_keep h
theorem go_rule {tag : String} : Go tb p w n₀ ann (.body b env) B 1 gd lv q s (rule tag) q s () := fun K H N r h => by
  rw [Nat.add_comm]
  obtain ⟨heap, gens, drawn, toks, os⟩ := s
  show topRun tb p w n₀ ann (N + 1) _ ⟨.rule tag fun x => K x, .body b env, q, B⟩ = some r
  unfold topRun
  rw [show through ⟨.rule tag fun x => K x, .body b env, q, B⟩ = false from Bool.and_false _]
  exact h
theorem go_at {q' : Pos} : Go tb p w n₀ ann (.body b env) B 1 gd lv q s (standAt q') q' s () := fun K H N r h => by
  rw [Nat.add_comm]
  obtain ⟨heap, gens, drawn, toks, os⟩ := s
  show topRun tb p w n₀ ann (N + 1) _ ⟨.at q' fun x => K x, .body b env, q, B⟩ = some r
  unfold topRun
  rw [show through ⟨.at q' fun x => K x, .body b env, q, B⟩ = false from Bool.and_false _]
  exact h
theorem go_load {d : Addr} {part : Option Value} {o : Obj} (ho : s.heap.get? d = some o) : Go tb p w n₀ ann (.body b env) B 1 gd lv q s (loadPart d part) q s o := fun K H N r h => by
  rw [Nat.add_comm]
  obtain ⟨heap, gens, drawn, toks, os⟩ := s
  show topRun tb p w n₀ ann (N + 1) _ ⟨.load d part fun x => K x, .body b env, q, B⟩ = some r
  unfold topRun
  rw [show through ⟨.load d part fun x => K x, .body b env, q, B⟩ = false from Bool.and_false _]
  show (match step (denote tb) p w ⟨heap, gens, drawn, toks, os⟩ ⟨.load d part fun x => K x, .body b env, q, B⟩ with
    | .go s' t' => topRun tb p w n₀ ann N s' t'
    | .halt _ _ => none) = some r
  have ho' : heap.get? d = some o := ho
  simp only [step, ho']
  exact h
/-- from a run by itself -/
theorem go_seg (hB : splitAtGen B = none) {res : α → Flow} {n : Nat} {T : Sem α} {f : Flow} {a : α} (inj : ∀ x, res x = f → x = a)
    (h : segRun tb p w n₀ ann B.length n s ⟨T.wrap (fun a => .pure (.done (res a))) deadEnd gd lv, c, q, B⟩ = some (f, s', c, q')) : Go tb p w n₀ ann c B n gd lv q s T q' s' a := fun K H N r z => by
  obtain ⟨x, hx, g⟩ := seg_top (res := res) (K' := K) (H' := H) (gd := gd) (lv := lv) hB n s ⟨T.wrap (fun a => .pure (.done (res a))) deadEnd gd lv, c, q, B⟩ ⟨T.wrap K H gd lv, c, q, B⟩ f s' c q' ⟨rfl, rfl, .inl ⟨rfl, rfl, T, rfl, rfl⟩⟩ h
  rw [inj x hx] at g
  exact g N r z
theorem go_forIn {σ : Type} {m : Nat} {f : σ → β → Sem (ForInStep β)} {y : β} : ∀ {l : List σ}, (∀ x ∈ l, Go tb p w n₀ ann c B m gd lv q s (f x y) q s (.yield y)) → Go tb p w n₀ ann c B (m * l.length) gd lv q s (forIn l y f) q s y
  | [], _ => go_pure
  | x :: l, h => by
    rw [List.forIn_cons, List.length_cons, Nat.mul_succ, Nat.add_comm]
    exact go_bind (h x (.head _)) (go_forIn fun z hz => h z (.tail _ hz))
theorem go_epoch {d : Addr} {part : Option Value} {o : Obj} {es : Array DictEntry} {n : Nat} (ho : s.heap.get? d = some o) (hd : o.data = .dict es n) : Go tb p w n₀ ann (.body b env) B 1 gd lv q s (dictEpoch d part) q s n := by
  unfold dictEpoch
  refine go_bind (m := 1) (k := 0) (go_load ho) ?_
  rw [hd]
  exact go_pure
theorem go_entries {d : Addr} {part : Option Value} {o : Obj} {es : Array DictEntry} {n : Nat} (ho : s.heap.get? d = some o) (hd : o.data = .dict es n) : Go tb p w n₀ ann (.body b env) B 1 gd lv q s (dictEntries d part) q s es := by
  unfold dictEntries
  refine go_bind (m := 1) (k := 0) (go_load ho) ?_
  rw [hd]
  exact go_pure
/-- a text that is none of a dict's keys, whatever their hashes are; the first key is no text -/
theorem go_find {d : Addr} {o : Obj} {es : Array DictEntry} {ep m : Nat} {x : Str} {t : Tok} {h : Int} (ho : s.heap.get? d = some o) (hd : o.data = .dict es ep) (h1 : (es.all fun e => isExactStrKey e.key) = false) (h2 : (es.toList.all fun e => carriedByValue e.key) = true)
    (heq : ∀ e ∈ es.toList, Go tb p w n₀ ann (.body b env) B m gd lv q s (eqBool e.key (.str x t)) q s false) : Go tb p w n₀ ann (.body b env) B (1 + (m + 3) * es.size) gd lv q s (dictFind d (.str x t) h) q s none := by
  unfold dictFind
  refine go_holding (T := _) ?_
  refine go_bind (m := 1) (k := (m + 3) * es.size) (go_entries ho hd) ?_
  dsimp only
  rw [if_neg (by rw [h1]; exact Bool.false_ne_true)]
  have hall : ((Value.str x t :: (placesWithHash es.size (fun i => es[i]?.map (·.hash)) h).filterMap fun i => es[i]?.map (·.key)).all carriedByValue) = true := by
    rw [List.all_cons, List.all_eq_true.mpr]
    · rfl
    · intro v hv
      obtain ⟨i, _, hi⟩ := List.mem_filterMap.mp hv
      cases he : es[i]? with
      | none => rw [he] at hi; cases hi
      | some e =>
        rw [he] at hi
        obtain rfl : e.key = v := by simpa using hi
        exact List.all_eq_true.mp h2 e (Array.mem_toList_iff.mpr (Array.mem_of_getElem? he))
  rw [if_pos hall]
  unfold dictWalkPlain
  have len : (placesWithHash es.size (fun i => es[i]?.map (·.hash)) h).length ≤ es.size := by
    unfold placesWithHash
    exact Nat.le_trans (List.length_filter_le _ _) (by rw [List.length_range]; exact Nat.le_refl _)
  refine go_more (m := (m + 3) * (placesWithHash es.size (fun i => es[i]?.map (·.hash)) h).length + 0) (go_bind (go_forIn fun i hi => ?_) ?_) (by rw [Nat.add_zero]; exact Nat.mul_le_mul_left _ len)
  · dsimp only
    cases he : es[i]? with
    | none => exact go_more go_pure (Nat.zero_le _)
    | some e =>
      dsimp only
      have me : e ∈ es.toList := Array.mem_toList_iff.mpr (Array.mem_of_getElem? he)
      split
      · refine go_more (m := 1 + (m + (1 + (1 + 0)))) (go_bind (go_epoch ho hd) (go_bind (heq e me) (go_bind (go_epoch ho hd) ?_))) (by omega)
        show Go tb p w n₀ ann (.body b env) B (1 + 0) gd lv q s (if (ep != ep) = true then _ else _) q s _
        rw [if_neg (by simp)]
        exact go_bind go_rule go_pure
      · exact go_more go_pure (Nat.zero_le _)
  · exact go_pure
theorem go_alloc {o : Obj} : Go tb p w n₀ ann (.body b env) B 1 gd lv q s (alloc o) q { s with heap := s.heap.push o } s.heap.objs.size := fun K H N r h => by
  rw [Nat.add_comm]
  obtain ⟨heap, gens, drawn, toks, os⟩ := s
  show topRun tb p w n₀ ann (N + 1) _ ⟨.alloc o fun x => K x, .body b env, q, B⟩ = some r
  unfold topRun
  rw [show through ⟨.alloc o fun x => K x, .body b env, q, B⟩ = false from Bool.and_false _]
  exact h
/-- what is done once a key is seen to be new -/
def putNewC (d : Addr) (key v : Value) (h : Int) : Sem Unit := rule "dict.set.new-key-at-the-end" >>= fun _ => updateDictKeys d (fun es => es.push ⟨h, key, v⟩) (keyPart key)
theorem go_set {d : Addr} {o : Obj} {es : Array DictEntry} {ep m mh mt : Nat} {x : Str} {t : Tok} {v : Value} {h : Int} {s1 s2 : Shared} {q1 q2 : Pos} (ho : s1.heap.get? d = some o) (hd : o.data = .dict es ep) (h1 : (es.all fun e => isExactStrKey e.key) = false) (h2 : (es.toList.all fun e => carriedByValue e.key) = true)
    (hash : Go tb p w n₀ ann (.body b env) B mh gd (heldOf [.str x t, v] lv) q s (pyHash (.str x t)) q1 s1 h)
    (heq : ∀ e ∈ es.toList, Go tb p w n₀ ann (.body b env) B m gd (heldOf [.str x t, v] (heldOf [.str x t, v] lv)) q1 s1 (eqBool e.key (.str x t)) q1 s1 false)
    (tail : Go tb p w n₀ ann (.body b env) B mt gd (heldOf [.str x t, v] (heldOf [.str x t, v] lv)) q1 s1 (putNewC d (.str x t) v h) q2 s2 ()) : Go tb p w n₀ ann (.body b env) B (mh + (1 + (m + 3) * es.size + mt)) gd lv q s (dictSet d (.str x t) v) q2 s2 () := by
  unfold dictSet
  refine go_holding ?_
  refine go_bind hash ?_
  unfold dictSetHashed
  refine go_holding ?_
  refine go_bind (go_find ho hd h1 h2 heq) ?_
  exact tail
/-- a display of five keys, put into a name -/
theorem go_display {x : Str} {xp dp ps : Pos} {k0 k1 k2 k3 k4 v0 v1 v2 v3 v4 : Expr} {m0 m1 m2 m3 m4 m5 m6 : Nat} {u0 u1 u2 u3 u4 y0 y1 y2 y3 y4 : Value} {s2 s3 s4 s5 s6 s7 s8 : Shared} {q2 q3 q4 q5 q6 q7 q8 : Pos}
    (ev : Go tb p w n₀ ann (.body b env) B m0 gd (heldOf [.ref s.heap.objs.size] lv) dp { s with heap := s.heap.push { cls := .type "dict", data := .dict #[] } } (evalPairs [(eval k0 env, eval v0 env >>= fun x => standAt dp >>= fun _ => pure x), (eval k1 env, eval v1 env >>= fun x => standAt dp >>= fun _ => pure x), (eval k2 env, eval v2 env >>= fun x => standAt dp >>= fun _ => pure x), (eval k3 env, eval v3 env >>= fun x => standAt dp >>= fun _ => pure x), (eval k4 env, eval v4 env >>= fun x => standAt dp >>= fun _ => pure x)]) q2 s2 [(u0, y0), (u1, y1), (u2, y2), (u3, y3), (u4, y4)])
    (g0 : Go tb p w n₀ ann (.body b env) B m1 gd (heldOf [u0, y0, u1, y1, u2, y2, u3, y3, u4, y4] (heldOf [.ref s.heap.objs.size] lv)) q2 s2 (dictSet s.heap.objs.size u0 y0) q3 s3 ())
    (g1 : Go tb p w n₀ ann (.body b env) B m2 gd (heldOf [u0, y0, u1, y1, u2, y2, u3, y3, u4, y4] (heldOf [.ref s.heap.objs.size] lv)) q3 s3 (dictSet s.heap.objs.size u1 y1) q4 s4 ())
    (g2 : Go tb p w n₀ ann (.body b env) B m3 gd (heldOf [u0, y0, u1, y1, u2, y2, u3, y3, u4, y4] (heldOf [.ref s.heap.objs.size] lv)) q4 s4 (dictSet s.heap.objs.size u2 y2) q5 s5 ())
    (g3 : Go tb p w n₀ ann (.body b env) B m4 gd (heldOf [u0, y0, u1, y1, u2, y2, u3, y3, u4, y4] (heldOf [.ref s.heap.objs.size] lv)) q5 s5 (dictSet s.heap.objs.size u3 y3) q6 s6 ())
    (g4 : Go tb p w n₀ ann (.body b env) B m5 gd (heldOf [u0, y0, u1, y1, u2, y2, u3, y3, u4, y4] (heldOf [.ref s.heap.objs.size] lv)) q6 s6 (dictSet s.heap.objs.size u4 y4) q7 s7 ())
    (fin : Go tb p w n₀ ann (.body b env) B m6 gd lv q7 s7 (assignAll (.ref s.heap.objs.size) ((assignEach [.Name x xp] env).map (·.2))) q8 s8 ()) :
    Go tb p w n₀ ann (.body b env) B (3 + (m0 + m1 + m2 + m3 + m4 + m5 + m6)) gd lv q s (exec (.Assign [.Name x xp] (.Dict [some k0, some k1, some k2, some k3, some k4] [v0, v1, v2, v3, v4] dp) ps) env) q8 s8 .next := by
  refine go_more (m := 1 + ((1 + (((1 + ((m0 + (((m1 + 0) + ((m2 + 0) + ((m3 + 0) + ((m4 + 0) + ((m5 + 0) + 0))))) + 0)) + 0)) + 0) + 0)) + (m6 + 0))) ?_ (by omega)
  unfold exec
  refine go_bind go_at ?_
  show Go tb p w n₀ ann (.body b env) B _ gd lv ps s (eval (.Dict [some k0, some k1, some k2, some k3, some k4] [v0, v1, v2, v3, v4] dp) env >>= fun v => assignAll v ((assignEach [.Name x xp] env).map (·.2)) >>= fun _ => (pure Flow.next : Sem Flow)) q8 s8 Flow.next
  refine go_bind ?_ (go_bind fin go_pure)
  unfold eval
  refine go_bind go_at ?_
  clear fin
  show Go tb p w n₀ ann (.body b env) B _ gd lv dp s ((subDict [(eval k0 env, eval v0 env >>= fun x => standAt dp >>= fun _ => pure x), (eval k1 env, eval v1 env >>= fun x => standAt dp >>= fun _ => pure x), (eval k2 env, eval v2 env >>= fun x => standAt dp >>= fun _ => pure x), (eval k3 env, eval v3 env >>= fun x => standAt dp >>= fun _ => pure x), (eval k4 env, eval v4 env >>= fun x => standAt dp >>= fun _ => pure x)] >>= fun d => (pure (some d) : Sem (Option Addr))) >>= fun m => (match m with
    | some d => pure (.ref d)
    | none => newDict : Sem Value)) q7 s7 (.ref s.heap.objs.size)
  refine go_bind (a := some s.heap.objs.size) (go_bind (a := s.heap.objs.size) ?_ go_pure) go_pure
  unfold subDict
  refine go_bind go_alloc ?_
  refine go_bind (a := ()) (go_holding ?_) go_pure
  rw [if_pos (Nat.le_of_ble_eq_true rfl)]
  refine go_bind ev ?_
  refine go_holding ?_
  refine go_bind (a := PUnit.unit) ?_ go_pure
  rw [List.forIn_cons]
  refine go_bind (go_bind g0 go_pure) ?_
  dsimp only
  rw [List.forIn_cons]
  refine go_bind (go_bind g1 go_pure) ?_
  dsimp only
  rw [List.forIn_cons]
  refine go_bind (go_bind g2 go_pure) ?_
  dsimp only
  rw [List.forIn_cons]
  refine go_bind (go_bind g3 go_pure) ?_
  dsimp only
  rw [List.forIn_cons]
  refine go_bind (go_bind g4 go_pure) ?_
  dsimp only
  rw [List.forIn_nil]
  exact go_pure
end
end Tw

set_option maxHeartbeats 4000000
/-! a top with one display of five keys whose first is None: what leans on hashes is left out of its run, and told apart -/
namespace Tw
open PySem PySem.W PySem.Calls PyProof.Rows
open HandSHeadRun (getT stepQ denQ tabQ putAll frNat bootAnn bootT)
abbrev SegC : Type := Flow × SharedT × Code × Pos
noncomputable def sgF (st : SharedT → Thread → Option (SharedT × Thread)) (n0 : Nat) (ann : Option Value) (b : Nat) : Nat → SharedT → Thread → Option SegC
  | 0, _, _ => none
  | m + 1, s, t => match endAt b t with
    | some f => some (f, s, t.code, t.pos)
    | none => match stepOk n0 ann t with
      | false => none
      | true => match st s t with
        | some (s', t') => HandSHeadRun.frS s' fun s' => sgF st n0 ann b m s' t'
        | none => none
theorem sgF_ok {tb : String → Option Builtin} {p : Program} {w : World} {n0 : Nat} {ann : Option Value} {b : Nat} : ∀ {m : Nat} {s s' : SharedT} {t : Thread} {f : Flow} {c : Code} {q : Pos}, sgF (stepT (denote tb) p w) n0 ann b m s t = some (f, s', c, q) → segRun tb p w n0 ann b m s.abs t = some (f, s'.abs, c, q)
  | 0, _, _, _, _, _, _, h => by cases h
  | m + 1, s, s', t, f, c, q, h => by
    unfold sgF at h
    unfold segRun
    cases he : endAt b t with
    | some x =>
      rw [he] at h
      cases h
      rfl
    | none =>
      rw [he] at h
      cases hk : stepOk n0 ann t with
      | false =>
        rw [hk] at h
        cases h
      | true =>
        rw [hk] at h
        cases hs : stepT (denote tb) p w s t with
        | none =>
          rw [hs] at h
          cases h
        | some r =>
          obtain ⟨s2, t2⟩ := r
          rw [hs] at h
          dsimp only at h
          rw [HandSHeadRun.frS_eq] at h
          rw [stepT_spec hs]
          exact sgF_ok h
/-- so many steps of the top -/
noncomputable def gkF (st : SharedT → Thread → Option (SharedT × Thread)) (n0 : Nat) (ann : Option Value) : Nat → SharedT → Thread → Option (SharedT × Thread)
  | 0, s, t => some (s, t)
  | m + 1, s, t => match through t with
    | true => none
    | false => match stepOk n0 ann t with
      | false => none
      | true => match st s t with
        | some (s', t') => HandSHeadRun.frS s' fun s' => gkF st n0 ann m s' t'
        | none => none
theorem gkF_ok {tb : String → Option Builtin} {p : Program} {w : World} {n0 : Nat} {ann : Option Value} : ∀ {m : Nat} {s s' : SharedT} {t t' : Thread}, gkF (stepT (denote tb) p w) n0 ann m s t = some (s', t') → topGo tb p w n0 ann m s.abs t = some (s'.abs, t')
  | 0, _, _, _, _, h => by cases h; rfl
  | m + 1, s, s', t, t', h => by
    unfold gkF at h
    unfold topGo
    cases he : through t with
    | true =>
      rw [he] at h
      cases h
    | false =>
      rw [he] at h
      cases hk : stepOk n0 ann t with
      | false =>
        rw [hk] at h
        cases h
      | true =>
        rw [hk] at h
        cases hs : stepT (denote tb) p w s t with
        | none =>
          rw [hs] at h
          cases h
        | some r =>
          obtain ⟨s2, t2⟩ := r
          rw [hs] at h
          dsimp only at h
          rw [HandSHeadRun.frS_eq] at h
          rw [stepT_spec hs]
          exact gkF_ok h
/-- the trees of the display -/
structure CutT where
  pairs : Sem (List (Value × Value))
  set : Addr → Value → Value → Sem Unit
  hash : Value → Sem Int
  put : Addr → Value → Value → Int → Sem Unit
  eq : Value → Value → Sem Bool
  fin : Addr → Sem Unit
/-- the five keys and what stands behind them, read in the text -/
structure CutD where
  x : Str
  xp : Pos
  dp : Pos
  ps : Pos
  k0 : Expr
  k1 : Expr
  k2 : Expr
  k3 : Expr
  k4 : Expr
  v0 : Expr
  v1 : Expr
  v2 : Expr
  v3 : Expr
  v4 : Expr
def CutD.stmt (D : CutD) : Stmt := .Assign [.Name D.x D.xp] (.Dict [some D.k0, some D.k1, some D.k2, some D.k3, some D.k4] [D.v0, D.v1, D.v2, D.v3, D.v4] D.dp) D.ps
abbrev backC (dp : Pos) (T : Sem Value) : Sem Value := T >>= fun x => standAt dp >>= fun _ => pure x
def treesO (D : CutD) (env : Env) : CutT where
  pairs := evalPairs [(eval D.k0 env, backC D.dp (eval D.v0 env)), (eval D.k1 env, backC D.dp (eval D.v1 env)), (eval D.k2 env, backC D.dp (eval D.v2 env)), (eval D.k3 env, backC D.dp (eval D.v3 env)), (eval D.k4 env, backC D.dp (eval D.v4 env))]
  set := dictSet
  hash := pyHash
  put := fun d key v h => rule "dict.set.new-key-at-the-end" >>= fun _ => updateDictKeys d (fun es => es.push ⟨h, key, v⟩) (keyPart key)
  eq := eqBool
  fin := fun d => assignAll (.ref d) ((assignEach [.Name D.x D.xp] env).map (·.2))
noncomputable def evalQ : Expr → Env → Sem Value := PySem.W.Fast.tw14044960220447912780
theorem evalQ_eq : @eval = evalQ := PySem.W.Fast.te14044960220447912780
noncomputable def pairsQ : List (Sem Value × Sem Value) → Sem (List (Value × Value)) := PySem.W.Fast.tw1788576489739465902
theorem pairsQ_eq : @evalPairs = pairsQ := PySem.W.Fast.te1788576489739465902
noncomputable def setQ : Addr → Value → Value → Sem Unit := PySem.W.Fast.tw11925912800584824493
theorem setQ_eq : @dictSet = setQ := PySem.W.Fast.te11925912800584824493
noncomputable def hashQ : Value → Sem Int := PySem.W.Fast.tw10540108854288196387
theorem hashQ_eq : @pyHash = hashQ := PySem.W.Fast.te10540108854288196387
noncomputable def keysQ : Addr → (Array DictEntry → Array DictEntry) → Option Value → Sem Unit := @PySem.W.Fast.tw11826078720135083572
theorem keysQ_eq : @updateDictKeys = keysQ := PySem.W.Fast.te11826078720135083572
noncomputable def eqbQ : Value → Value → Sem Bool := PySem.W.Fast.tw13926502685295537346
theorem eqbQ_eq : @eqBool = eqbQ := PySem.W.Fast.te13926502685295537346
noncomputable def eachQ : List Expr → Env → List (Bool × (Value → Sem Unit)) := PySem.W.Fast.tw15628205474173192105
theorem eachQ_eq : @assignEach = eachQ := PySem.W.Fast.te15628205474173192105
noncomputable def execsQ : List Stmt → Env → Sem Flow := PySem.W.Fast.tw12563942051412417395
theorem execsQ_eq : @execs = execsQ := PySem.W.Fast.te12563942051412417395
noncomputable def treesQ (D : CutD) (env : Env) : CutT where
  pairs := pairsQ [(evalQ D.k0 env, backC D.dp (evalQ D.v0 env)), (evalQ D.k1 env, backC D.dp (evalQ D.v1 env)), (evalQ D.k2 env, backC D.dp (evalQ D.v2 env)), (evalQ D.k3 env, backC D.dp (evalQ D.v3 env)), (evalQ D.k4 env, backC D.dp (evalQ D.v4 env))]
  set := setQ
  hash := hashQ
  put := fun d key v h => rule "dict.set.new-key-at-the-end" >>= fun _ => keysQ d (fun es => es.push ⟨h, key, v⟩) (keyPart key)
  eq := eqbQ
  fin := fun d => assignAll (.ref d) ((eachQ [.Name D.x D.xp] env).map (·.2))
theorem treesQ_eq (D : CutD) (env : Env) : treesO D env = treesQ D env := by
  unfold treesO treesQ
  rw [evalQ_eq, pairsQ_eq, setQ_eq, hashQ_eq, keysQ_eq, eqbQ_eq, eachQ_eq]
section
variable (st : SharedT → Thread → Option (SharedT × Thread)) (n0 : Nat) (ann : Option Value) (c : Code) (B : List Frame)
abbrev runT {α : Type} (T : Sem α) (res : α → Flow) (lv : List Value → List Value) : Sem Fin := T.wrap (fun a => .pure (.done (res a))) deadEnd id lv
noncomputable abbrev oneF (s : SharedT) (q : Pos) (cur : Sem Fin) : Option SegC := sgF st n0 ann B.length 300 s ⟨cur, c, q, B⟩
/-- where the display stands: the codes met, what asking whether keys are one said, and what it has to say -/
structure CutO where
  s : SharedT
  q : Pos
  cs : List Code
  fs : List (Option SegC)
  xs : List (Option SegC)
abbrev resCU : Unit → Flow := fun _ => .next
abbrev resCH : Int → Flow := fun h => .ret (.int h 0)
abbrev resCB : Bool → Flow := fun b => bif b then .brk else .next
noncomputable def setK (Z : CutT) (d : Addr) (x : Str) (t : Tok) (v : Value) (lv : List Value → List Value) (o : CutO) : Option CutO :=
  match oneF st n0 ann c B o.s o.q (runT (Z.hash (.str x t)) resCH (heldOf [.str x t, v] lv)) with
  | some (.ret (.int h _), s1, c1, q1) => (match getT s1 d with
    | some ⟨_, _, .dict es _, _⟩ => (match !(es.toList.all fun e => isExactStrKey e.key) && es.toList.all fun e => carriedByValue e.key with
      | true => (match oneF st n0 ann c B s1 q1 (runT (Z.put d (.str x t) v h) resCU (heldOf [.str x t, v] (heldOf [.str x t, v] lv))) with
        | some (.next, s2, c2, q2) => some ⟨s2, q2, c1 :: c2 :: o.cs, (es.toList.map fun e => oneF st n0 ann c B s1 q1 (runT (Z.eq e.key (.str x t)) resCB (heldOf [.str x t, v] (heldOf [.str x t, v] lv)))) ++ o.fs, (es.toList.map fun _ => some (.next, s1, c, q1)) ++ o.xs⟩
        | _ => none)
      | false => none)
    | _ => none)
  | _ => none
abbrev dictC : Obj := { cls := .type "dict", data := .dict #[] }
/-- names, with how many texts are made ahead of each -/
abbrev CutN : Type := (Str × Nat) × (Str × Nat) × (Str × Nat) × (Str × Nat)
abbrev vsOf (N : CutN) (d k : Nat) : List (Value × Value) := [(.none, .ref (d + 1)), (.str N.1.1 (k + N.1.2), .ref (d + 2)), (.str N.2.1.1 (k + N.2.1.2), .ref (d + 3)), (.str N.2.2.1.1 (k + N.2.2.1.2), .ref (d + 4)), (.str N.2.2.2.1 (k + N.2.2.2.2), .ref (d + 5))]
abbrev flatOf (N : CutN) (d k : Nat) : List Value := [.none, .ref (d + 1), .str N.1.1 (k + N.1.2), .ref (d + 2), .str N.2.1.1 (k + N.2.1.2), .ref (d + 3), .str N.2.2.1.1 (k + N.2.2.1.2), .ref (d + 4), .str N.2.2.2.1 (k + N.2.2.2.2), .ref (d + 5)]
abbrev resCP (l : List (Value × Value)) : List (Value × Value) → Flow := fun vs => bif decide (vs = l) then .next else .brk
noncomputable def follF (Z : CutT) (dp : Pos) (N : CutN) (s : SharedT) : Option CutO :=
  match ((s.tree.ins s.n dictC).get s.n).isSome with
  | true => (match oneF st n0 ann c B ⟨s.tree.ins s.n dictC, s.n + 1, s.life, s.gens, s.drawn, s.toks, s.os⟩ dp (runT Z.pairs (resCP (vsOf N s.n s.toks)) (heldOf [.ref s.n] id)) with
    | some (.next, s2, c2, q2) => (match oneF st n0 ann c B s2 q2 (runT (Z.set s.n .none (.ref (s.n + 1))) resCU (heldOf (flatOf N s.n s.toks) (heldOf [.ref s.n] id))) with
      | some (.next, s3, c3, q3) => (match setK st n0 ann c B Z s.n N.1.1 (s.toks + N.1.2) (.ref (s.n + 2)) (heldOf (flatOf N s.n s.toks) (heldOf [.ref s.n] id)) ⟨s3, q3, [c2, c3], [], []⟩ with
        | some o4 => (match setK st n0 ann c B Z s.n N.2.1.1 (s.toks + N.2.1.2) (.ref (s.n + 3)) (heldOf (flatOf N s.n s.toks) (heldOf [.ref s.n] id)) o4 with
          | some o5 => (match setK st n0 ann c B Z s.n N.2.2.1.1 (s.toks + N.2.2.1.2) (.ref (s.n + 4)) (heldOf (flatOf N s.n s.toks) (heldOf [.ref s.n] id)) o5 with
            | some o6 => (match setK st n0 ann c B Z s.n N.2.2.2.1 (s.toks + N.2.2.2.2) (.ref (s.n + 5)) (heldOf (flatOf N s.n s.toks) (heldOf [.ref s.n] id)) o6 with
              | some o7 => (match oneF st n0 ann c B o7.s o7.q (runT (Z.fin s.n) resCU id) with
                | some (.next, s8, c8, q8) => some ⟨s8, q8, c8 :: o7.cs, o7.fs, o7.xs⟩
                | _ => none)
              | none => none)
            | none => none)
          | none => none)
        | none => none)
      | _ => none)
    | _ => none)
  | false => none
end
section
variable {tb : String → Option Builtin} {p : Program} {w : World} {n0 : Nat} {ann : Option Value} {b : List Stmt} {env : Env} {B : List Frame}
abbrev GoT (tb : String → Option Builtin) (p : Program) (w : World) (n0 : Nat) (ann : Option Value) (b : List Stmt) (env : Env) (B : List Frame) {α : Type} (m : Nat) (lv : List Value → List Value) (q : Pos) (s : SharedT) (T : Sem α) (q' : Pos) (s' : SharedT) (a : α) : Prop := Go tb p w n0 ann (.body b env) B m id lv q s.abs T q' s'.abs a
theorem goT_of (hB : splitAtGen B = none) {α : Type} {T : Sem α} {res : α → Flow} {lv : List Value → List Value} {s s' : SharedT} {q q' : Pos} {f : Flow} {a : α} {c' : Code} (h : oneF (stepT (denote tb) p w) n0 ann (.body b env) B s q (runT T res lv) = some (f, s', c', q')) (hc : c' = .body b env) (inj : ∀ x, res x = f → x = a) : GoT tb p w n0 ann b env B 300 lv q s T q' s' a := by
  subst hc
  exact go_seg hB inj (sgF_ok h)
theorem setK_ok (hB : splitAtGen B = none) {D : CutD} {d : Addr} {x : Str} {t : Tok} {v : Value} {lv : List Value → List Value} {o o' : CutO} (h : setK (stepT (denote tb) p w) n0 ann (.body b env) B (treesO D env) d x t v lv o = some o') :
    ∃ c1 c2 fs xs, o'.cs = c1 :: c2 :: o.cs ∧ o'.fs = fs ++ o.fs ∧ o'.xs = xs ++ o.xs ∧ fs.length = xs.length ∧ (c1 = .body b env → c2 = .body b env → fs = xs → fs.length ≤ 10 → GoT tb p w n0 ann b env B 4000 lv o.q o.s (dictSet d (.str x t) v) o'.q o'.s ()) := by
  unfold setK at h
  split at h
  · rename_i hh tk s1 c1 q1 e1
    split at h
    · rename_i oc od es ep sl eg
      split at h
      · rename_i hk
        split at h
        · rename_i s2 c2 q2 e2
          cases h
          refine ⟨c1, c2, _, _, rfl, rfl, rfl, by rw [List.length_map, List.length_map], fun r1 r2 r3 le => ?_⟩
          rw [Bool.and_eq_true, Bool.not_eq_true'] at hk
          obtain ⟨hk1, hk2⟩ := hk
          rw [List.length_map] at le
          have g1 := goT_of hB e1 r1 (a := hh) fun y hy => by
            injection hy with hy
            injection hy
          have g2 := goT_of hB e2 r2 (a := ()) fun _ _ => rfl
          have hg : s1.abs.heap.get? d = some ⟨oc, od, .dict es ep, sl⟩ := (HandSHeadRun.getT_eq s1 d).symm.trans eg
          refine go_more (go_set (m := 300) hg rfl (by rw [← Array.all_toList]; exact hk1) hk2 g1 (fun e he => ?_) g2) (by
            have : es.size = es.toList.length := (Array.length_toList).symm
            have : es.size ≤ 10 := by omega
            have : (300 + 3) * es.size ≤ (300 + 3) * 10 := Nat.mul_le_mul_left _ this
            omega)
          have z := List.map_inj_left.mp r3 e he
          exact goT_of hB z rfl fun y hy => by
            cases y with
            | true => cases hy
            | false => rfl
        · cases h
      · cases h
    · cases h
  · cases h
theorem parts_eq {α : Type} {a b c d : List α} (h : a ++ b = c ++ d) (l : a.length = c.length) : a = c ∧ b = d := List.append_inj h l
theorem follF_ok (hB : splitAtGen B = none) {D : CutD} {N : CutN} {s : SharedT} {o : CutO} (h : follF (stepT (denote tb) p w) n0 ann (.body b env) B (treesO D env) D.dp N s = some o) (hc : ∀ c ∈ o.cs, c = .body b env) (hf : o.fs = o.xs) (hl : o.fs.length ≤ 10) (q : Pos) :
    GoT tb p w n0 ann b env B 17000 id q s (exec D.stmt env) o.q o.s .next := by
  unfold follF at h
  split at h
  · rename_i ei
    split at h
    · rename_i s2 c2 q2 e2
      split at h
      · rename_i s3 c3 q3 e3
        split at h
        · rename_i o4 e4
          split at h
          · rename_i o5 e5
            split at h
            · rename_i o6 e6
              split at h
              · rename_i o7 e7
                split at h
                · rename_i s8 c8 q8 e8
                  cases h
                  obtain ⟨a4, b4, f4, x4, u4, w4, y4, l4, g4⟩ := setK_ok hB e4
                  obtain ⟨a5, b5, f5, x5, u5, w5, y5, l5, g5⟩ := setK_ok hB e5
                  obtain ⟨a6, b6, f6, x6, u6, w6, y6, l6, g6⟩ := setK_ok hB e6
                  obtain ⟨a7, b7, f7, x7, u7, w7, y7, l7, g7⟩ := setK_ok hB e7
                  dsimp only at hc hf hl u4 w4 y4
                  rw [u7, u6, u5, u4] at hc
                  rw [w7, w6, w5, w4, y7, y6, y5, y4] at hf
                  rw [w7, w6, w5, w4] at hl
                  simp only [List.length_append, List.length_nil] at hl
                  obtain ⟨z7, hf⟩ := parts_eq hf l7
                  obtain ⟨z6, hf⟩ := parts_eq hf l6
                  obtain ⟨z5, hf⟩ := parts_eq hf l5
                  obtain ⟨z4, hf⟩ := parts_eq hf l4
                  have k := fun c (m : c ∈ _) => hc c m
                  simp only [List.mem_cons, List.not_mem_nil, or_false, forall_eq_or_imp, forall_eq] at hc
                  obtain ⟨r8, r7, r7', r6, r6', r5, r5', r4, r4', r2, r3⟩ := hc
                  have G4 := g4 r4 r4' z4 (by omega)
                  have G5 := g5 r5 r5' z5 (by omega)
                  have G6 := g6 r6 r6' z6 (by omega)
                  have G7 := g7 r7 r7' z7 (by omega)
                  have E2 := goT_of hB e2 r2 (a := vsOf N s.n s.toks) fun y hy => by
                    by_cases hy' : y = vsOf N s.n s.toks
                    · exact hy'
                    · dsimp only [resCP] at hy
                      rw [decide_eq_false hy'] at hy
                      cases hy
                  have E3 := goT_of hB e3 r3 (a := ()) fun _ _ => rfl
                  have E8 := goT_of hB e8 r8 (a := ()) fun _ _ => rfl
                  have hn : s.abs.heap.objs.size = s.n := absHeap_size s.tree s.n s.life
                  have hp : ({ s.abs with heap := s.abs.heap.push dictC } : Shared) = (⟨s.tree.ins s.n dictC, s.n + 1, s.life, s.gens, s.drawn, s.toks, s.os⟩ : SharedT).abs := by
                    show (⟨(absHeap s.tree s.n s.life).push dictC, _, _, _, _⟩ : Shared) = ⟨absHeap (s.tree.ins s.n dictC) (s.n + 1) s.life, _, _, _, _⟩
                    rw [absHeap_ins ei]
                    rfl
                  refine go_more (go_display (m0 := 300) (m1 := 300) (m2 := 4000) (m3 := 4000) (m4 := 4000) (m5 := 4000) (m6 := 300) (u0 := .none) (y0 := .ref (s.n + 1)) (u1 := .str N.1.1 (s.toks + N.1.2)) (y1 := .ref (s.n + 2)) (u2 := .str N.2.1.1 (s.toks + N.2.1.2)) (y2 := .ref (s.n + 3)) (u3 := .str N.2.2.1.1 (s.toks + N.2.2.1.2)) (y3 := .ref (s.n + 4)) (u4 := .str N.2.2.2.1 (s.toks + N.2.2.2.2)) (y4 := .ref (s.n + 5)) (s2 := s2.abs) (s3 := s3.abs) (s4 := o4.s.abs) (s5 := o5.s.abs) (s6 := o6.s.abs) (s7 := o7.s.abs) (q2 := q2) (q3 := q3) (q4 := o4.q) (q5 := o5.q) (q6 := o6.q) (q7 := o7.q) ?_ ?_ ?_ ?_ ?_ ?_ ?_) (by omega)
                  all_goals rw [hn]
                  · rw [hp]
                    exact E2
                  · exact E3
                  · exact G4
                  · exact G5
                  · exact G6
                  · exact G7
                  · exact E8
                · cases h
              · cases h
            · cases h
          · cases h
        · cases h
      · cases h
    · cases h
  · cases h
end
/-! ### the whole top -/
noncomputable def chainN (st : SharedT → Thread → Option (SharedT × Thread)) (ann : Option Value) (c : Code) (B : List Frame) (blk : Sem Unit) (T1 T2 : Sem Flow) (Z : CutT) (dp : Pos) (N : CutN) (k M n0 : Nat) (s0 : SharedT) (t0 : Thread) : Option (Thread × CutO) :=
  match gkF st n0 ann k s0 t0 with
  | some (sa, ta) => (match sgF st n0 ann B.length 10 sa ⟨blk.wrap (fun _ => doneF .next) deadEnd id id, c, ta.pos, B⟩ with
    | some (.next, sb, cb, qb) => (match sgF st n0 ann B.length M sb ⟨T1.wrap doneF deadEnd id id, c, qb, B⟩ with
      | some (.next, s1, c1, q1) => (match follF st n0 ann c B Z dp N s1 with
        | some o => (match sgF st n0 ann B.length M o.s ⟨T2.wrap doneF deadEnd id id, c, o.q, B⟩ with
          | some (.next, s9, c9, q9) => some (ta, ⟨s9, q9, cb :: c1 :: c9 :: o.cs, o.fs, o.xs⟩)
          | _ => none)
        | none => none)
      | _ => none)
    | _ => none)
  | none => none
noncomputable def chainF (st : SharedT → Thread → Option (SharedT × Thread)) (p : Program) (c : Code) (B : List Frame) (blk : Sem Unit) (T1 T2 : Sem Flow) (Z : CutT) (dp : Pos) (N : CutN) (k M : Nat) (w : World) (os : OsState) : Option (Thread × CutO) :=
  match putAll (boot_heap w.params).objs.toList .nil 0 with
  | some (t, n) => frNat n fun n0 => chainN st (bootAnn w) c B blk T1 T2 Z dp N k M n0 (bootT w os (t, n0)) (topStub p)
  | none => none
section
variable {tb : String → Option Builtin} {p : Program} {w : World} {n0 : Nat} {ann : Option Value} {b : List Stmt} {env : Env} {q0 : Pos}
theorem top_end {N : Nat} {s : Shared} {q : Pos} : topRun tb p w n0 ann (N + 2) s ⟨doneF .next, .body b env, q, [topFrame q0]⟩ = some s := by
  obtain ⟨heap, gens, drawn, toks, os⟩ := s
  unfold topRun
  rw [show through ⟨doneF .next, .body b env, q, [topFrame q0]⟩ = false from rfl]
  show topRun tb p w n0 ann (N + 1) _ _ = _
  unfold topRun
  rfl
theorem chainN_ok {D : CutD} {N : CutN} {i k M : Nat} {s0 : SharedT} {t0 ta : Thread} {qp : Pos} {o : CutO} (hb : b = b.take i ++ (D.stmt :: b.drop (i + 1)))
    (h : chainN (stepT (denote tb) p w) ann (.body b env) [topFrame q0] (blockStart b env) (execs (b.take i) env) (execs (b.drop (i + 1)) env) (treesO D env) D.dp N k M n0 s0 t0 = some (ta, o)) (ht : ta = ⟨denote tb (.body b env), .body b env, qp, [topFrame q0]⟩)
    (hc : ∀ c ∈ o.cs, c = .body b env) (hf : o.fs = o.xs) (hl : o.fs.length ≤ 10) : topRun tb p w n0 ann (k + (10 + (M + (17000 + (M + 2))))) s0.abs t0 = some o.s.abs := by
  unfold chainN at h
  split at h
  · rename_i sa tz e0
    split at h
    · rename_i sb cb qb e1
      split at h
      · rename_i s1 c1 q1 e2
        split at h
        · rename_i o1 e3
          split at h
          · rename_i s9 c9 q9 e4
            cases h
            subst ht
            simp only [List.mem_cons, forall_eq_or_imp] at hc
            obtain ⟨rb, r1, r9, rc⟩ := hc
            subst rb r1 r9
            have f0 := gkF_ok e0
            have f1 := sgF_ok e1
            have f2 := sgF_ok e2
            have f4 := sgF_ok e4
            refine go_top f0 (piece_block f1 ?_)
            rw [show restOf b env (.body b env) qb [topFrame q0] = restOf (b.take i ++ (D.stmt :: b.drop (i + 1))) env (.body b env) qb [topFrame q0] from congrArg (fun z => restOf z env (.body b env) qb [topFrame q0]) hb]
            refine piece_app f2 ?_
            unfold restOf
            rw [execs_cons_wrap]
            refine follF_ok (B := [topFrame q0]) rfl e3 rc hf hl q1 _ _ _ _ ?_
            dsimp only
            show topRun tb p w n0 ann (M + 2) o1.s.abs (restOf (b.drop (i + 1)) env (.body b env) o1.q [topFrame q0]) = _
            have z := piece_app (rest := []) f4 (N := 2) (r := s9.abs) (piece_nil (top_end (N := 0)))
            rw [List.append_nil] at z
            exact z
          · cases h
        · cases h
      · cases h
    · cases h
  · cases h
theorem chainF_ok {D : CutD} {N : CutN} {i k M : Nat} {os : OsState} {ta : Thread} {qp : Pos} {o : CutO} (hb : b = b.take i ++ (D.stmt :: b.drop (i + 1)))
    (h : chainF (stepT (denote tb) p w) p (.body b env) [topFrame q0] (blockStart b env) (execs (b.take i) env) (execs (b.drop (i + 1)) env) (treesO D env) D.dp N k M w os = some (ta, o)) (ht : ta = ⟨denote tb (.body b env), .body b env, qp, [topFrame q0]⟩)
    (hc : ∀ c ∈ o.cs, c = .body b env) (hf : o.fs = o.xs) (hl : o.fs.length ≤ 10) : topRun tb p w (boot_heap w.params).objs.size (bootAnn w) (k + (10 + (M + (17000 + (M + 2))))) ⟨boot_heap w.params, #[], boot_drawn, boot_toks, os⟩ (topStub p) = some o.s.abs := by
  unfold chainF at h
  split at h
  · rename_i t n e
    rw [HandSHeadRun.frNat_eq] at h
    have q := chainN_ok hb h ht hc hf hl
    have eh := HandSHeadRun.putAll_heap e
    have en : (boot_heap w.params).objs.size = n := by
      rw [← eh]
      exact absHeap_size t n _
    rw [en]
    have eb : (bootT w os (t, n)).abs = ⟨boot_heap w.params, #[], boot_drawn, boot_toks, os⟩ := congrArg (fun z : Heap => (⟨z, #[], boot_drawn, boot_toks, os⟩ : Shared)) eh
    rw [← eb]
    exact q
  · cases h
end
end Tw

set_option maxHeartbeats 4000000
/-! a head whose top was run in pieces -/
namespace Tw
open PySem PySem.W PySem.Calls PyProof.Rows
open HandSHeadRun (looksF seenQ bootAnn)
/-- where the top's run comes to its end -/
theorem top_from {p : Program} {w : World} {os : OsState} {M N : Nat} {s : Shared} (le : M ≤ N) (r : topRun treeTable p w (boot_heap w.params).objs.size (bootAnn w) M ⟨boot_heap w.params, #[], boot_drawn, boot_toks, os⟩ (topStub p) = some s) (l : looksF p (boot_heap w.params) s = true) : topFrom treeTable p w N ⟨boot_heap w.params, Array.mk [], boot_drawn, boot_toks, os⟩ = some s := by
  have r' := topRun_mono (N - M) _ _ _ _ r
  rw [Nat.add_sub_cancel' le] at r'
  unfold looksF at l
  have a : ((boot_heap w.params).isNs mainGlobals && (Array.mk [] : Array GenState).size == 0) = true := by
    rw [HandSHeadRun.boot_ns]
    rfl
  simp only [topFrom]
  rw [a]
  dsimp only
  refine (congrArg (fun z : Option Shared => z.bind _) r').trans ?_
  rw [Option.bind_some, l]
theorem left_cut {p q : Program} {loose : List Str} {Xt : Shared → Bool} {α : Type} {Yf : Shared → α} {Ya : World → α} {N M : Nat} (e : opening p = plainProg p.main.scope.names) (f : ∀ s, fenceModules? p s = some s) (hN : 600 ≤ N) (le : M ≤ N)
    (run : ∀ (w : World) (os : OsState), ∃ s : Shared, topRun treeTable p w (boot_heap w.params).objs.size (bootAnn w) M ⟨boot_heap w.params, #[], boot_drawn, boot_toks, os⟩ (topStub p) = some s ∧ looksF p (boot_heap w.params) s = true ∧ openSeen q loose (importedModules p.main.body) Xt true s = openGood q loose ∧ Yf s = Ya w) : LeftO p q loose Xt Yf Ya N true := fun w => by
  obtain ⟨⟨h, gs, d, k, os⟩, a, a'⟩ := Option.map_eq_some_iff.mp (boot_open e (Nat.ble_eq_true_of_le hN) f w)
  simp only [Prod.mk.injEq] at a'
  obtain ⟨rfl, rfl, rfl, rfl⟩ := a'
  obtain ⟨s, r, l1, l2, l3⟩ := run w os
  refine Option.map_eq_some_iff.mpr ⟨s, ?_, Prod.ext l2 l3⟩
  exact Option.bind_eq_some_iff.mpr ⟨_, a, top_from le r l1⟩
/-- what the pieces' run has to show, at a world -/
structure CutOk (r : OpenRow) (q : Program) (H : Hook) (loose : List PySem.Str) (M : Nat) (w : World) : Prop where
  run : ∀ os : OsState, ∃ s : SharedT, topRun treeTable r.prog w (boot_heap w.params).objs.size (bootAnn w) M ⟨boot_heap w.params, #[], boot_drawn, boot_toks, os⟩ (topStub r.prog) = some s.abs ∧ looksF r.prog (boot_heap w.params) s.abs = true ∧ seenQ q loose (importedModules r.prog.main.body) (fun s => xlAt q [] s && recOk r.toRowW.records s) s.abs = openGood q loose ∧ H.obs s.abs = H.val w
theorem seen_at {β : Type} {o : Option (Thread × CutO)} {z : Thread × CutO} {g : SharedT → β} {y : β} (h : o = some z) (e : (o.map fun z => z.2.s).map g = some y) : g z.2.s = y := by
  rw [h] at e
  exact Option.some.inj e
theorem seen_ex {β : Type} {o : Option (Thread × CutO)} {g : SharedT → β} {y : β} (e : (o.map fun z => z.2.s).map g = some y) : ∃ z, o = some z ∧ g z.2.s = y := by
  cases h : o with
  | none =>
    rw [h] at e
    cases e
  | some z => exact ⟨z, rfl, seen_at h e⟩
theorem seen_parts {o : Option (Thread × CutO)} {z : Thread × CutO} {x : Thread} {cs : List Code} {n : Nat} (h : o = some z) (e : o.map (fun z => (z.1, z.2.cs, z.2.fs.length, z.2.fs)) = o.map (fun z => (x, cs, n, z.2.xs))) : z.1 = x ∧ z.2.cs = cs ∧ z.2.fs.length = n ∧ z.2.fs = z.2.xs := by
  rw [h] at e
  have e := Option.some.inj e
  exact ⟨congrArg (fun y => y.1) e, congrArg (fun y => y.2.1) e, congrArg (fun y => y.2.2.1) e, congrArg (fun y => y.2.2.2) e⟩
theorem cut_at {r : OpenRow} {q : Program} {H : Hook} {loose : List PySem.Str} {M : Nat} {w : World} {os : OsState} (s : SharedT) (a : topRun treeTable r.prog w (boot_heap w.params).objs.size (bootAnn w) M ⟨boot_heap w.params, #[], boot_drawn, boot_toks, os⟩ (topStub r.prog) = some s.abs) (b : looksF r.prog (boot_heap w.params) s.abs = true)
    (c : seenQ q loose (importedModules r.prog.main.body) (fun s => xlAt q [] s && recOk r.toRowW.records s) s.abs = openGood q loose) (d : H.obs s.abs = H.val w) : ∃ s : SharedT, topRun treeTable r.prog w (boot_heap w.params).objs.size (bootAnn w) M ⟨boot_heap w.params, #[], boot_drawn, boot_toks, os⟩ (topStub r.prog) = some s.abs ∧ looksF r.prog (boot_heap w.params) s.abs = true ∧ seenQ q loose (importedModules r.prog.main.body) (fun s => xlAt q [] s && recOk r.toRowW.records s) s.abs = openGood q loose ∧ H.obs s.abs = H.val w := ⟨s, a, b, c, d⟩
theorem head_cut {r : OpenRow} {q : Program} {H : Hook} {M : Nat} {loose : List PySem.Str} {d : DefRec} {kwd : List (PySem.Str × PySem.Expr)} (e : opening r.prog = plainProg r.prog.main.scope.names) (f : ∀ s, fenceModules? r.prog s = some s) (run : ∀ w, CutOk r q H loose M w)
    (hdef : defOf q r.name = some (d, kwd)) (hp : r.prog.theDef r.name = some (d.params, d.body, d.scope)) (hk : kwWritten? d.params.kwonlyargs d.params.kw_defaults = some kwd)
    (hwr : (!r.writes || r.records.isEmpty) = true) (k1 : r.wellSaid = true) (ok : (chainsOk q && opensWell r.prog && (frees r.toRowW && r.within.isEmpty)) = true) (hb : r.prog.bare) (hw : r.toRowW.promised)
    (call : WalkO q loose (XL q []) H.says r.toRowW d kwd fun f vs => PySem.call f vs) : r.Holds :=
  holds_open (r := r) (q := q) (loose := loose) (XP := XL q []) (YP := H.says) (d := d) (kwd := kwd) (N := M + 600) (Xt := fun s => xlAt q [] s && recOk r.toRowW.records s) (Yf := H.obs) (Ya := H.val)
    (left_cut (M := M) e f (Nat.le_add_left _ _) (Nat.le_add_right _ _) fun w os => by
      obtain ⟨s, a, b, c, y⟩ := (run w).run os
      exact ⟨s.abs, a, b, (HandSHeadRun.seenQ_eq _ _ _ _ _).trans c, y⟩)
    H.of H.keeps (fun _ z => xl_of _ (Bool.and_eq_true_iff.mp z).1) XL.keeps hdef hp hk (fun _ z => recFacts_of (Bool.and_eq_true_iff.mp z).2) hwr k1 ok hb hw call
end Tw

set_option maxHeartbeats 4000000
namespace Tw
open PySem PySem.Spec PyProof.Rows L2

def top (i : Nat) : Stmt := PySem.Challenge.pw_tidewaiter_k56_webs_written_and_read.main.body.getD i (.Pass ⟨0, 0, 0, 0⟩)
abbrev s_TideError_UinitU : Stmt := inClass (top 1) 0
abbrev s_BadBy_UinitU : Stmt := inClass (top 2) 0
abbrev s_BadName_UinitU : Stmt := inClass (top 3) 0
abbrev s_Taken_UinitU : Stmt := inClass (top 4) 0
abbrev s_Full_UinitU : Stmt := inClass (top 5) 0
abbrev s_BadLength_UinitU : Stmt := inClass (top 6) 0
abbrev s_BadLate_UinitU : Stmt := inClass (top 7) 0
abbrev s_BadTie_UinitU : Stmt := inClass (top 8) 0
abbrev s_Used_UinitU : Stmt := inClass (top 9) 0
abbrev s_Missing_UinitU : Stmt := inClass (top 11) 0
abbrev s_NoMoment_UinitU : Stmt := inClass (top 12) 0
abbrev s_NoPoint_UinitU : Stmt := inClass (top 13) 0
abbrev s_NoTie_UinitU : Stmt := inClass (top 14) 0
abbrev s_is_number : Stmt := top 18
abbrev s_is_whole : Stmt := top 19
abbrev s_is_one_of : Stmt := top 20
abbrev s_is_name : Stmt := top 21
abbrev s_is_figures : Stmt := top 26
abbrev s_read_number : Stmt := top 27
abbrev s_read_bound : Stmt := top 28
abbrev s_read_name : Stmt := top 29
abbrev s_written : Stmt := top 30
abbrev s_read_words : Stmt := top 32
abbrev s_read_word : Stmt := top 33
abbrev s_with_deed : Stmt := top 36
abbrev s_write_deed : Stmt := top 37
abbrev s_read_deed : Stmt := top 38
abbrev s_Web_UinitU : Stmt := inClass (top 49) 0
abbrev s_Web_with_by : Stmt := inClass (top 49) 1
abbrev s_Web_with_moment : Stmt := inClass (top 49) 2
abbrev s_Web_with_span : Stmt := inClass (top 49) 3
abbrev s_Web_with_tie : Stmt := inClass (top 49) 4
abbrev s_Web_without : Stmt := inClass (top 49) 5
abbrev s_Web_without_tie : Stmt := inClass (top 49) 6
abbrev s_Web_moments : Stmt := inClass (top 49) 7
abbrev s_Web_spans : Stmt := inClass (top 49) 8
abbrev s_Web_ties : Stmt := inClass (top 49) 9
abbrev s_Web_points : Stmt := inClass (top 49) 10
abbrev s_Web_UeqU : Stmt := inClass (top 49) 11
abbrev s_Web_UlenU : Stmt := inClass (top 49) 12
abbrev s_Web_UreprU : Stmt := inClass (top 49) 13
abbrev s_woven : Stmt := top 50
abbrev s_is_begin : Stmt := top 51
abbrev s_are_lengths : Stmt := top 52
abbrev s_is_lateness : Stmt := top 53
abbrev s_is_used : Stmt := top 54
abbrev s_are_bounds : Stmt := top 55
abbrev s_need_free_name : Stmt := top 56
abbrev s_need_point : Stmt := top 57
abbrev s_write_web : Stmt := top 60
abbrev s_read_web : Stmt := top 61
abbrev s_need_follower : Stmt := top 62
abbrev s__law_flow : Stmt := top 64
abbrev s__law_draw : Stmt := top 65
abbrev s__law_pick : Stmt := top 66
abbrev s__law_same : Stmt := top 67
abbrev s__law_names : Stmt := top 68
abbrev s__law_model : Stmt := top 69
abbrev s__law_points : Stmt := top 70
abbrev s__law_web : Stmt := top 71
abbrev s__law_wind : Stmt := top 72
abbrev s__law_bond : Stmt := top 73
abbrev s__law_drawn : Stmt := top 74
abbrev s__law_stands : Stmt := top 75
abbrev s__law_deed_line : Stmt := top 76
abbrev s__law_web_deeds : Stmt := top 77
abbrev s_law : Stmt := top 78
abbrev N_TideError_UinitU : List Str := ["self", "word", "why"]
theorem sc_TideError_UinitU : FnScope N_TideError_UinitU ["self", "word", "why"] (defScope s_TideError_UinitU) := ⟨rfl, rfl, rfl, by decide +kernel, rfl, by decide +kernel, by decide +kernel⟩
abbrev N_BadBy_UinitU : List Str := ["self", "by"]
theorem sc_BadBy_UinitU : FnScope N_BadBy_UinitU ["self", "by"] (defScope s_BadBy_UinitU) := ⟨rfl, rfl, rfl, by decide +kernel, rfl, by decide +kernel, by decide +kernel⟩
abbrev N_BadName_UinitU : List Str := ["self", "name"]
theorem sc_BadName_UinitU : FnScope N_BadName_UinitU ["self", "name"] (defScope s_BadName_UinitU) := ⟨rfl, rfl, rfl, by decide +kernel, rfl, by decide +kernel, by decide +kernel⟩
abbrev N_Taken_UinitU : List Str := ["self", "name"]
theorem sc_Taken_UinitU : FnScope N_Taken_UinitU ["self", "name"] (defScope s_Taken_UinitU) := ⟨rfl, rfl, rfl, by decide +kernel, rfl, by decide +kernel, by decide +kernel⟩
abbrev N_Full_UinitU : List Str := ["self", "most"]
theorem sc_Full_UinitU : FnScope N_Full_UinitU ["self", "most"] (defScope s_Full_UinitU) := ⟨rfl, rfl, rfl, by decide +kernel, rfl, by decide +kernel, by decide +kernel⟩
abbrev N_BadLength_UinitU : List Str := ["self", "low", "high"]
theorem sc_BadLength_UinitU : FnScope N_BadLength_UinitU ["self", "low", "high"] (defScope s_BadLength_UinitU) := ⟨rfl, rfl, rfl, by decide +kernel, rfl, by decide +kernel, by decide +kernel⟩
abbrev N_BadLate_UinitU : List Str := ["self", "late"]
theorem sc_BadLate_UinitU : FnScope N_BadLate_UinitU ["self", "late"] (defScope s_BadLate_UinitU) := ⟨rfl, rfl, rfl, by decide +kernel, rfl, by decide +kernel, by decide +kernel⟩
abbrev N_BadTie_UinitU : List Str := ["self", "least", "most"]
theorem sc_BadTie_UinitU : FnScope N_BadTie_UinitU ["self", "least", "most"] (defScope s_BadTie_UinitU) := ⟨rfl, rfl, rfl, by decide +kernel, rfl, by decide +kernel, by decide +kernel⟩
abbrev N_Used_UinitU : List Str := ["self", "name"]
theorem sc_Used_UinitU : FnScope N_Used_UinitU ["self", "name"] (defScope s_Used_UinitU) := ⟨rfl, rfl, rfl, by decide +kernel, rfl, by decide +kernel, by decide +kernel⟩
abbrev N_Missing_UinitU : List Str := ["self", "word", "why"]
theorem sc_Missing_UinitU : FnScope N_Missing_UinitU ["self", "word", "why"] (defScope s_Missing_UinitU) := ⟨rfl, rfl, rfl, by decide +kernel, rfl, by decide +kernel, by decide +kernel⟩
abbrev N_NoMoment_UinitU : List Str := ["self", "name"]
theorem sc_NoMoment_UinitU : FnScope N_NoMoment_UinitU ["self", "name"] (defScope s_NoMoment_UinitU) := ⟨rfl, rfl, rfl, by decide +kernel, rfl, by decide +kernel, by decide +kernel⟩
abbrev N_NoPoint_UinitU : List Str := ["self", "name"]
theorem sc_NoPoint_UinitU : FnScope N_NoPoint_UinitU ["self", "name"] (defScope s_NoPoint_UinitU) := ⟨rfl, rfl, rfl, by decide +kernel, rfl, by decide +kernel, by decide +kernel⟩
abbrev N_NoTie_UinitU : List Str := ["self", "at"]
theorem sc_NoTie_UinitU : FnScope N_NoTie_UinitU ["self", "at"] (defScope s_NoTie_UinitU) := ⟨rfl, rfl, rfl, by decide +kernel, rfl, by decide +kernel, by decide +kernel⟩
abbrev N_is_number : List Str := ["thing"]
theorem sc_is_number : FnScope N_is_number ["thing"] (defScope s_is_number) := ⟨rfl, rfl, rfl, by decide +kernel, rfl, by decide +kernel, by decide +kernel⟩
abbrev N_is_whole : List Str := ["thing", "least", "most"]
theorem sc_is_whole : FnScope N_is_whole ["thing", "least", "most"] (defScope s_is_whole) := ⟨rfl, rfl, rfl, by decide +kernel, rfl, by decide +kernel, by decide +kernel⟩
abbrev N_is_one_of : List Str := ["thing", "names"]
theorem sc_is_one_of : FnScope N_is_one_of ["thing", "names"] (defScope s_is_one_of) := ⟨rfl, rfl, rfl, by decide +kernel, rfl, by decide +kernel, by decide +kernel⟩
abbrev N_is_name : List Str := ["thing", "letter"]
theorem sc_is_name : FnScope N_is_name ["thing"] (defScope s_is_name) := ⟨rfl, rfl, rfl, by decide +kernel, rfl, by decide +kernel, by decide +kernel⟩
abbrev N_is_figures : List Str := ["word", "sign"]
theorem sc_is_figures : FnScope N_is_figures ["word"] (defScope s_is_figures) := ⟨rfl, rfl, rfl, by decide +kernel, rfl, by decide +kernel, by decide +kernel⟩
abbrev N_read_number : List Str := ["word", "figures"]
theorem sc_read_number : FnScope N_read_number ["word"] (defScope s_read_number) := ⟨rfl, rfl, rfl, by decide +kernel, rfl, by decide +kernel, by decide +kernel⟩
abbrev N_read_bound : List Str := ["word"]
theorem sc_read_bound : FnScope N_read_bound ["word"] (defScope s_read_bound) := ⟨rfl, rfl, rfl, by decide +kernel, rfl, by decide +kernel, by decide +kernel⟩
abbrev N_read_name : List Str := ["word"]
theorem sc_read_name : FnScope N_read_name ["word"] (defScope s_read_name) := ⟨rfl, rfl, rfl, by decide +kernel, rfl, by decide +kernel, by decide +kernel⟩
abbrev N_written : List Str := ["thing"]
theorem sc_written : FnScope N_written ["thing"] (defScope s_written) := ⟨rfl, rfl, rfl, by decide +kernel, rfl, by decide +kernel, by decide +kernel⟩
abbrev N_read_words : List Str := ["form", "words", "kind", "word"]
theorem sc_read_words : FnScope N_read_words ["form", "words"] (defScope s_read_words) := ⟨rfl, rfl, rfl, by decide +kernel, rfl, by decide +kernel, by decide +kernel⟩
abbrev N_read_word : List Str := ["kind", "word", "reader"]
theorem sc_read_word : FnScope N_read_word ["kind", "word"] (defScope s_read_word) := ⟨rfl, rfl, rfl, by decide +kernel, rfl, by decide +kernel, by decide +kernel⟩
abbrev N_with_deed : List Str := ["web", "deed", "word", "things", "end", "begin", "low", "high", "late", "one", "other", "least", "most"]
theorem sc_with_deed : FnScope N_with_deed ["web", "deed"] (defScope s_with_deed) := ⟨rfl, rfl, rfl, by decide +kernel, rfl, by decide +kernel, by decide +kernel⟩
abbrev N_write_deed : List Str := ["deed", "thing"]
theorem sc_write_deed : FnScope N_write_deed ["deed"] (defScope s_write_deed) := ⟨rfl, rfl, rfl, by decide +kernel, rfl, by decide +kernel, by decide +kernel⟩
abbrev N_read_deed : List Str := ["text", "word", "words", "things"]
theorem sc_read_deed : FnScope N_read_deed ["text"] (defScope s_read_deed) := ⟨rfl, rfl, rfl, by decide +kernel, rfl, by decide +kernel, by decide +kernel⟩
abbrev N_Web_UinitU : List Str := ["self", "by"]
theorem sc_Web_UinitU : FnScope N_Web_UinitU ["self", "by"] (defScope s_Web_UinitU) := ⟨rfl, rfl, rfl, by decide +kernel, rfl, by decide +kernel, by decide +kernel⟩
abbrev N_Web_with_by : List Str := ["self", "by"]
theorem sc_Web_with_by : FnScope N_Web_with_by ["self", "by"] (defScope s_Web_with_by) := ⟨rfl, rfl, rfl, by decide +kernel, rfl, by decide +kernel, by decide +kernel⟩
abbrev N_Web_with_moment : List Str := ["self", "name"]
theorem sc_Web_with_moment : FnScope N_Web_with_moment ["self", "name"] (defScope s_Web_with_moment) := ⟨rfl, rfl, rfl, by decide +kernel, rfl, by decide +kernel, by decide +kernel⟩
abbrev N_Web_with_span : List Str := ["self", "end", "begin", "low", "high", "late", "span"]
theorem sc_Web_with_span : FnScope N_Web_with_span ["self", "end", "begin", "low", "high", "late"] (defScope s_Web_with_span) := ⟨rfl, rfl, rfl, by decide +kernel, rfl, by decide +kernel, by decide +kernel⟩
abbrev N_Web_with_tie : List Str := ["self", "one", "other", "least", "most", "tie"]
theorem sc_Web_with_tie : FnScope N_Web_with_tie ["self", "one", "other", "least", "most"] (defScope s_Web_with_tie) := ⟨rfl, rfl, rfl, by decide +kernel, rfl, by decide +kernel, by decide +kernel⟩
abbrev N_Web_without : List Str := ["self", "name", "moments", "spans", "moment", "span"]
theorem sc_Web_without : FnScope N_Web_without ["self", "name"] (defScope s_Web_without) := ⟨rfl, rfl, rfl, by decide +kernel, rfl, by decide +kernel, by decide +kernel⟩
abbrev N_Web_without_tie : List Str := ["self", "at", "ties"]
theorem sc_Web_without_tie : FnScope N_Web_without_tie ["self", "at"] (defScope s_Web_without_tie) := ⟨rfl, rfl, rfl, by decide +kernel, rfl, by decide +kernel, by decide +kernel⟩
abbrev N_Web_moments : List Str := ["self"]
theorem sc_Web_moments : FnScope N_Web_moments ["self"] (defScope s_Web_moments) := ⟨rfl, rfl, rfl, by decide +kernel, rfl, by decide +kernel, by decide +kernel⟩
abbrev N_Web_spans : List Str := ["self"]
theorem sc_Web_spans : FnScope N_Web_spans ["self"] (defScope s_Web_spans) := ⟨rfl, rfl, rfl, by decide +kernel, rfl, by decide +kernel, by decide +kernel⟩
abbrev N_Web_ties : List Str := ["self"]
theorem sc_Web_ties : FnScope N_Web_ties ["self"] (defScope s_Web_ties) := ⟨rfl, rfl, rfl, by decide +kernel, rfl, by decide +kernel, by decide +kernel⟩
abbrev N_Web_points : List Str := ["self", "ends", "span"]
theorem sc_Web_points : FnScope N_Web_points ["self"] (defScope s_Web_points) := ⟨rfl, rfl, rfl, by decide +kernel, rfl, by decide +kernel, by decide +kernel⟩
abbrev N_Web_UeqU : List Str := ["self", "other"]
theorem sc_Web_UeqU : FnScope N_Web_UeqU ["self", "other"] (defScope s_Web_UeqU) := ⟨rfl, rfl, rfl, by decide +kernel, rfl, by decide +kernel, by decide +kernel⟩
abbrev N_Web_UlenU : List Str := ["self"]
theorem sc_Web_UlenU : FnScope N_Web_UlenU ["self"] (defScope s_Web_UlenU) := ⟨rfl, rfl, rfl, by decide +kernel, rfl, by decide +kernel, by decide +kernel⟩
abbrev N_Web_UreprU : List Str := ["self"]
theorem sc_Web_UreprU : FnScope N_Web_UreprU ["self"] (defScope s_Web_UreprU) := ⟨rfl, rfl, rfl, by decide +kernel, rfl, by decide +kernel, by decide +kernel⟩
abbrev N_woven : List Str := ["by", "moments", "spans", "ties", "web"]
theorem sc_woven : FnScope N_woven ["by", "moments", "spans", "ties"] (defScope s_woven) := ⟨rfl, rfl, rfl, by decide +kernel, rfl, by decide +kernel, by decide +kernel⟩
abbrev N_is_begin : List Str := ["web", "name"]
theorem sc_is_begin : FnScope N_is_begin ["web", "name"] (defScope s_is_begin) := ⟨rfl, rfl, rfl, by decide +kernel, rfl, by decide +kernel, by decide +kernel⟩
abbrev N_are_lengths : List Str := ["low", "high"]
theorem sc_are_lengths : FnScope N_are_lengths ["low", "high"] (defScope s_are_lengths) := ⟨rfl, rfl, rfl, by decide +kernel, rfl, by decide +kernel, by decide +kernel⟩
abbrev N_is_lateness : List Str := ["late"]
theorem sc_is_lateness : FnScope N_is_lateness ["late"] (defScope s_is_lateness) := ⟨rfl, rfl, rfl, by decide +kernel, rfl, by decide +kernel, by decide +kernel⟩
abbrev N_is_used : List Str := ["web", "name", "begins", "span", "tie"]
theorem sc_is_used : FnScope N_is_used ["web", "name"] (defScope s_is_used) := ⟨rfl, rfl, rfl, by decide +kernel, rfl, by decide +kernel, by decide +kernel⟩
abbrev N_are_bounds : List Str := ["least", "most", "told", "bound"]
theorem sc_are_bounds : FnScope N_are_bounds ["least", "most"] (defScope s_are_bounds) := ⟨rfl, rfl, rfl, by decide +kernel, rfl, by decide +kernel, by decide +kernel⟩
abbrev N_need_free_name : List Str := ["web", "name"]
theorem sc_need_free_name : FnScope N_need_free_name ["web", "name"] (defScope s_need_free_name) := ⟨rfl, rfl, rfl, by decide +kernel, rfl, by decide +kernel, by decide +kernel⟩
abbrev N_need_point : List Str := ["web", "name"]
theorem sc_need_point : FnScope N_need_point ["web", "name"] (defScope s_need_point) := ⟨rfl, rfl, rfl, by decide +kernel, rfl, by decide +kernel, by decide +kernel⟩
abbrev N_write_web : List Str := ["web", "deeds", "name", "span", "tie", "deed"]
theorem sc_write_web : FnScope N_write_web ["web"] (defScope s_write_web) := ⟨rfl, rfl, rfl, by decide +kernel, rfl, by decide +kernel, by decide +kernel⟩
abbrev N_read_web : List Str := ["text", "web", "ahead", "row", "line", "deed"]
theorem sc_read_web : FnScope N_read_web ["text"] (defScope s_read_web) := ⟨rfl, rfl, rfl, by decide +kernel, rfl, by decide +kernel, by decide +kernel⟩
abbrev N_need_follower : List Str := ["ahead", "word"]
theorem sc_need_follower : FnScope N_need_follower ["ahead", "word"] (defScope s_need_follower) := ⟨rfl, rfl, rfl, by decide +kernel, rfl, by decide +kernel, by decide +kernel⟩
abbrev N__law_flow : List Str := ["_law_script"]
theorem sc__law_flow : FnScope N__law_flow ["_law_script"] (defScope s__law_flow) := ⟨rfl, rfl, rfl, by decide +kernel, rfl, by decide +kernel, by decide +kernel⟩
abbrev N__law_draw : List Str := ["_law_flow_here", "_law_size", "_law_found", "_law_cell", "_law_here"]
theorem sc__law_draw : FnScope N__law_draw ["_law_flow_here", "_law_size"] (defScope s__law_draw) := ⟨rfl, rfl, rfl, by decide +kernel, rfl, by decide +kernel, by decide +kernel⟩
abbrev N__law_pick : List Str := ["_law_flow_here", "_law_row"]
theorem sc__law_pick : FnScope N__law_pick ["_law_flow_here", "_law_row"] (defScope s__law_pick) := ⟨rfl, rfl, rfl, by decide +kernel, rfl, by decide +kernel, by decide +kernel⟩
abbrev N__law_same : List Str := ["_law_found", "_law_due", "_law_key", "_law_k"]
theorem sc__law_same : FnScope N__law_same ["_law_found", "_law_due"] (defScope s__law_same) := ⟨rfl, rfl, rfl, by decide +kernel, rfl, by decide +kernel, by decide +kernel⟩
abbrev N__law_names : List Str := ["_law_flow_here", "_law_many", "_law_pool", "_law_found", "_law_k"]
theorem sc__law_names : FnScope N__law_names ["_law_flow_here", "_law_many"] (defScope s__law_names) := ⟨rfl, rfl, rfl, by decide +kernel, rfl, by decide +kernel, by decide +kernel⟩
abbrev N__law_model : List Str := ["_law_last"]
theorem sc__law_model : FnScope N__law_model ["_law_last"] (defScope s__law_model) := ⟨rfl, rfl, rfl, by decide +kernel, rfl, by decide +kernel, by decide +kernel⟩
abbrev N__law_points : List Str := ["_law_m", "_law_wind_here"]
theorem sc__law_points : FnScope N__law_points ["_law_m"] (defScope s__law_points) := ⟨rfl, rfl, rfl, by decide +kernel, rfl, by decide +kernel, by decide +kernel⟩
abbrev N__law_web : List Str := ["_law_m", "_law_web_here", "_law_name", "_law_end", "_law_begin", "_law_low", "_law_high", "_law_hush", "_law_one", "_law_other", "_law_bot", "_law_top"]
theorem sc__law_web : FnScope N__law_web ["_law_m"] (defScope s__law_web) := ⟨rfl, rfl, rfl, by decide +kernel, rfl, by decide +kernel, by decide +kernel⟩
abbrev N__law_wind : List Str := ["_law_flow_here", "_law_end", "_law_own", "_law_far", "_law_low", "_law_high", "_law_hush"]
theorem sc__law_wind : FnScope N__law_wind ["_law_flow_here", "_law_end", "_law_own", "_law_far"] (defScope s__law_wind) := ⟨rfl, rfl, rfl, by decide +kernel, rfl, by decide +kernel, by decide +kernel⟩
abbrev N__law_bond : List Str := ["_law_flow_here", "_law_points_here", "_law_far", "_law_rest", "_law_one", "_law_other", "_law_low", "_law_high", "_law_kind"]
theorem sc__law_bond : FnScope N__law_bond ["_law_flow_here", "_law_points_here", "_law_far"] (defScope s__law_bond) := ⟨rfl, rfl, rfl, by decide +kernel, rfl, by decide +kernel, by decide +kernel⟩
abbrev N__law_drawn : List Str := ["_law_flow_here", "_law_own", "_law_winds", "_law_bonds", "_law_far", "_law_last", "_law_m", "_law_names_here", "_law_end", "_law_k"]
theorem sc__law_drawn : FnScope N__law_drawn ["_law_flow_here", "_law_own", "_law_winds", "_law_bonds", "_law_far", "_law_last"] (defScope s__law_drawn) := ⟨rfl, rfl, rfl, by decide +kernel, rfl, by decide +kernel, by decide +kernel⟩
abbrev N__law_stands : List Str := ["_law_web_here", "_law_m", "_law_points_here", "_law_found", "_law_text"]
theorem sc__law_stands : FnScope N__law_stands ["_law_web_here", "_law_m"] (defScope s__law_stands) := ⟨rfl, rfl, rfl, by decide +kernel, rfl, by decide +kernel, by decide +kernel⟩
abbrev N__law_deed_line : List Str := ["_law_deed", "_law_one"]
theorem sc__law_deed_line : FnScope N__law_deed_line ["_law_deed"] (defScope s__law_deed_line) := ⟨rfl, rfl, rfl, by decide +kernel, rfl, by decide +kernel, by decide +kernel⟩
abbrev N__law_web_deeds : List Str := ["_law_m", "_law_found", "_law_name", "_law_wind_here", "_law_bond_here"]
theorem sc__law_web_deeds : FnScope N__law_web_deeds ["_law_m"] (defScope s__law_web_deeds) := ⟨rfl, rfl, rfl, by decide +kernel, rfl, by decide +kernel, by decide +kernel⟩
abbrev N_law : List Str := ["_law_script", "_law_flow_here", "_law_own", "_law_winds", "_law_bonds", "_law_m", "_law_web_here", "_law_text", "_law_found", "_law_deed"]
theorem sc_law : FnScope N_law ["_law_script"] (defScope s_law) := ⟨rfl, rfl, rfl, by decide +kernel, rfl, by decide +kernel, by decide +kernel⟩
def d_TideError_UinitU : He.DefD := ⟨("TideError", some "__init__"), "__init__", "TideError.__init__", defArgs s_TideError_UinitU, defBody s_TideError_UinitU, defScope s_TideError_UinitU, [.str "TideError", .str "refused"], []⟩
def d_BadBy_UinitU : He.DefD := ⟨("BadBy", some "__init__"), "__init__", "BadBy.__init__", defArgs s_BadBy_UinitU, defBody s_BadBy_UinitU, defScope s_BadBy_UinitU, [], []⟩
def d_BadName_UinitU : He.DefD := ⟨("BadName", some "__init__"), "__init__", "BadName.__init__", defArgs s_BadName_UinitU, defBody s_BadName_UinitU, defScope s_BadName_UinitU, [], []⟩
def d_Taken_UinitU : He.DefD := ⟨("Taken", some "__init__"), "__init__", "Taken.__init__", defArgs s_Taken_UinitU, defBody s_Taken_UinitU, defScope s_Taken_UinitU, [], []⟩
def d_Full_UinitU : He.DefD := ⟨("Full", some "__init__"), "__init__", "Full.__init__", defArgs s_Full_UinitU, defBody s_Full_UinitU, defScope s_Full_UinitU, [], []⟩
def d_BadLength_UinitU : He.DefD := ⟨("BadLength", some "__init__"), "__init__", "BadLength.__init__", defArgs s_BadLength_UinitU, defBody s_BadLength_UinitU, defScope s_BadLength_UinitU, [], []⟩
def d_BadLate_UinitU : He.DefD := ⟨("BadLate", some "__init__"), "__init__", "BadLate.__init__", defArgs s_BadLate_UinitU, defBody s_BadLate_UinitU, defScope s_BadLate_UinitU, [], []⟩
def d_BadTie_UinitU : He.DefD := ⟨("BadTie", some "__init__"), "__init__", "BadTie.__init__", defArgs s_BadTie_UinitU, defBody s_BadTie_UinitU, defScope s_BadTie_UinitU, [], []⟩
def d_Used_UinitU : He.DefD := ⟨("Used", some "__init__"), "__init__", "Used.__init__", defArgs s_Used_UinitU, defBody s_Used_UinitU, defScope s_Used_UinitU, [], []⟩
def d_Missing_UinitU : He.DefD := ⟨("Missing", some "__init__"), "__init__", "Missing.__init__", defArgs s_Missing_UinitU, defBody s_Missing_UinitU, defScope s_Missing_UinitU, [.str "Missing", .str "refused"], []⟩
def d_NoMoment_UinitU : He.DefD := ⟨("NoMoment", some "__init__"), "__init__", "NoMoment.__init__", defArgs s_NoMoment_UinitU, defBody s_NoMoment_UinitU, defScope s_NoMoment_UinitU, [], []⟩
def d_NoPoint_UinitU : He.DefD := ⟨("NoPoint", some "__init__"), "__init__", "NoPoint.__init__", defArgs s_NoPoint_UinitU, defBody s_NoPoint_UinitU, defScope s_NoPoint_UinitU, [], []⟩
def d_NoTie_UinitU : He.DefD := ⟨("NoTie", some "__init__"), "__init__", "NoTie.__init__", defArgs s_NoTie_UinitU, defBody s_NoTie_UinitU, defScope s_NoTie_UinitU, [], []⟩
def d_is_number : He.DefD := ⟨("is_number", none), "is_number", "is_number", defArgs s_is_number, defBody s_is_number, defScope s_is_number, [], []⟩
def d_is_whole : He.DefD := ⟨("is_whole", none), "is_whole", "is_whole", defArgs s_is_whole, defBody s_is_whole, defScope s_is_whole, [], []⟩
def d_is_one_of : He.DefD := ⟨("is_one_of", none), "is_one_of", "is_one_of", defArgs s_is_one_of, defBody s_is_one_of, defScope s_is_one_of, [], []⟩
def d_is_name : He.DefD := ⟨("is_name", none), "is_name", "is_name", defArgs s_is_name, defBody s_is_name, defScope s_is_name, [], []⟩
def d_is_figures : He.DefD := ⟨("is_figures", none), "is_figures", "is_figures", defArgs s_is_figures, defBody s_is_figures, defScope s_is_figures, [], []⟩
def d_read_number : He.DefD := ⟨("read_number", none), "read_number", "read_number", defArgs s_read_number, defBody s_read_number, defScope s_read_number, [], []⟩
def d_read_bound : He.DefD := ⟨("read_bound", none), "read_bound", "read_bound", defArgs s_read_bound, defBody s_read_bound, defScope s_read_bound, [], []⟩
def d_read_name : He.DefD := ⟨("read_name", none), "read_name", "read_name", defArgs s_read_name, defBody s_read_name, defScope s_read_name, [], []⟩
def d_written : He.DefD := ⟨("written", none), "written", "written", defArgs s_written, defBody s_written, defScope s_written, [], []⟩
def d_read_words : He.DefD := ⟨("read_words", none), "read_words", "read_words", defArgs s_read_words, defBody s_read_words, defScope s_read_words, [], []⟩
def d_read_word : He.DefD := ⟨("read_word", none), "read_word", "read_word", defArgs s_read_word, defBody s_read_word, defScope s_read_word, [], []⟩
def d_with_deed : He.DefD := ⟨("with_deed", none), "with_deed", "with_deed", defArgs s_with_deed, defBody s_with_deed, defScope s_with_deed, [], []⟩
def d_write_deed : He.DefD := ⟨("write_deed", none), "write_deed", "write_deed", defArgs s_write_deed, defBody s_write_deed, defScope s_write_deed, [], []⟩
def d_read_deed : He.DefD := ⟨("read_deed", none), "read_deed", "read_deed", defArgs s_read_deed, defBody s_read_deed, defScope s_read_deed, [], []⟩
def d_Web_UinitU : He.DefD := ⟨("Web", some "__init__"), "__init__", "Web.__init__", defArgs s_Web_UinitU, defBody s_Web_UinitU, defScope s_Web_UinitU, [.int 100], []⟩
def d_Web_with_by : He.DefD := ⟨("Web", some "with_by"), "with_by", "Web.with_by", defArgs s_Web_with_by, defBody s_Web_with_by, defScope s_Web_with_by, [], []⟩
def d_Web_with_moment : He.DefD := ⟨("Web", some "with_moment"), "with_moment", "Web.with_moment", defArgs s_Web_with_moment, defBody s_Web_with_moment, defScope s_Web_with_moment, [], []⟩
def d_Web_with_span : He.DefD := ⟨("Web", some "with_span"), "with_span", "Web.with_span", defArgs s_Web_with_span, defBody s_Web_with_span, defScope s_Web_with_span, [], [("late", .int 0)]⟩
def d_Web_with_tie : He.DefD := ⟨("Web", some "with_tie"), "with_tie", "Web.with_tie", defArgs s_Web_with_tie, defBody s_Web_with_tie, defScope s_Web_with_tie, [], [("least", .non), ("most", .non)]⟩
def d_Web_without : He.DefD := ⟨("Web", some "without"), "without", "Web.without", defArgs s_Web_without, defBody s_Web_without, defScope s_Web_without, [], []⟩
def d_Web_without_tie : He.DefD := ⟨("Web", some "without_tie"), "without_tie", "Web.without_tie", defArgs s_Web_without_tie, defBody s_Web_without_tie, defScope s_Web_without_tie, [], []⟩
def d_Web_moments : He.DefD := ⟨("Web", some "moments"), "moments", "Web.moments", defArgs s_Web_moments, defBody s_Web_moments, defScope s_Web_moments, [], []⟩
def d_Web_spans : He.DefD := ⟨("Web", some "spans"), "spans", "Web.spans", defArgs s_Web_spans, defBody s_Web_spans, defScope s_Web_spans, [], []⟩
def d_Web_ties : He.DefD := ⟨("Web", some "ties"), "ties", "Web.ties", defArgs s_Web_ties, defBody s_Web_ties, defScope s_Web_ties, [], []⟩
def d_Web_points : He.DefD := ⟨("Web", some "points"), "points", "Web.points", defArgs s_Web_points, defBody s_Web_points, defScope s_Web_points, [], []⟩
def d_Web_UeqU : He.DefD := ⟨("Web", some "__eq__"), "__eq__", "Web.__eq__", defArgs s_Web_UeqU, defBody s_Web_UeqU, defScope s_Web_UeqU, [], []⟩
def d_Web_UlenU : He.DefD := ⟨("Web", some "__len__"), "__len__", "Web.__len__", defArgs s_Web_UlenU, defBody s_Web_UlenU, defScope s_Web_UlenU, [], []⟩
def d_Web_UreprU : He.DefD := ⟨("Web", some "__repr__"), "__repr__", "Web.__repr__", defArgs s_Web_UreprU, defBody s_Web_UreprU, defScope s_Web_UreprU, [], []⟩
def d_woven : He.DefD := ⟨("woven", none), "woven", "woven", defArgs s_woven, defBody s_woven, defScope s_woven, [], []⟩
def d_is_begin : He.DefD := ⟨("is_begin", none), "is_begin", "is_begin", defArgs s_is_begin, defBody s_is_begin, defScope s_is_begin, [], []⟩
def d_are_lengths : He.DefD := ⟨("are_lengths", none), "are_lengths", "are_lengths", defArgs s_are_lengths, defBody s_are_lengths, defScope s_are_lengths, [], []⟩
def d_is_lateness : He.DefD := ⟨("is_lateness", none), "is_lateness", "is_lateness", defArgs s_is_lateness, defBody s_is_lateness, defScope s_is_lateness, [], []⟩
def d_is_used : He.DefD := ⟨("is_used", none), "is_used", "is_used", defArgs s_is_used, defBody s_is_used, defScope s_is_used, [], []⟩
def d_are_bounds : He.DefD := ⟨("are_bounds", none), "are_bounds", "are_bounds", defArgs s_are_bounds, defBody s_are_bounds, defScope s_are_bounds, [], []⟩
def d_need_free_name : He.DefD := ⟨("need_free_name", none), "need_free_name", "need_free_name", defArgs s_need_free_name, defBody s_need_free_name, defScope s_need_free_name, [], []⟩
def d_need_point : He.DefD := ⟨("need_point", none), "need_point", "need_point", defArgs s_need_point, defBody s_need_point, defScope s_need_point, [], []⟩
def d_write_web : He.DefD := ⟨("write_web", none), "write_web", "write_web", defArgs s_write_web, defBody s_write_web, defScope s_write_web, [], []⟩
def d_read_web : He.DefD := ⟨("read_web", none), "read_web", "read_web", defArgs s_read_web, defBody s_read_web, defScope s_read_web, [], []⟩
def d_need_follower : He.DefD := ⟨("need_follower", none), "need_follower", "need_follower", defArgs s_need_follower, defBody s_need_follower, defScope s_need_follower, [], []⟩
def d__law_flow : He.DefD := ⟨("_law_flow", none), "_law_flow", "_law_flow", defArgs s__law_flow, defBody s__law_flow, defScope s__law_flow, [], []⟩
def d__law_draw : He.DefD := ⟨("_law_draw", none), "_law_draw", "_law_draw", defArgs s__law_draw, defBody s__law_draw, defScope s__law_draw, [], []⟩
def d__law_pick : He.DefD := ⟨("_law_pick", none), "_law_pick", "_law_pick", defArgs s__law_pick, defBody s__law_pick, defScope s__law_pick, [], []⟩
def d__law_same : He.DefD := ⟨("_law_same", none), "_law_same", "_law_same", defArgs s__law_same, defBody s__law_same, defScope s__law_same, [], []⟩
def d__law_names : He.DefD := ⟨("_law_names", none), "_law_names", "_law_names", defArgs s__law_names, defBody s__law_names, defScope s__law_names, [], []⟩
def d__law_model : He.DefD := ⟨("_law_model", none), "_law_model", "_law_model", defArgs s__law_model, defBody s__law_model, defScope s__law_model, [], []⟩
def d__law_points : He.DefD := ⟨("_law_points", none), "_law_points", "_law_points", defArgs s__law_points, defBody s__law_points, defScope s__law_points, [], []⟩
def d__law_web : He.DefD := ⟨("_law_web", none), "_law_web", "_law_web", defArgs s__law_web, defBody s__law_web, defScope s__law_web, [], []⟩
def d__law_wind : He.DefD := ⟨("_law_wind", none), "_law_wind", "_law_wind", defArgs s__law_wind, defBody s__law_wind, defScope s__law_wind, [], []⟩
def d__law_bond : He.DefD := ⟨("_law_bond", none), "_law_bond", "_law_bond", defArgs s__law_bond, defBody s__law_bond, defScope s__law_bond, [], []⟩
def d__law_drawn : He.DefD := ⟨("_law_drawn", none), "_law_drawn", "_law_drawn", defArgs s__law_drawn, defBody s__law_drawn, defScope s__law_drawn, [], []⟩
def d__law_stands : He.DefD := ⟨("_law_stands", none), "_law_stands", "_law_stands", defArgs s__law_stands, defBody s__law_stands, defScope s__law_stands, [], []⟩
def d__law_deed_line : He.DefD := ⟨("_law_deed_line", none), "_law_deed_line", "_law_deed_line", defArgs s__law_deed_line, defBody s__law_deed_line, defScope s__law_deed_line, [], []⟩
def d__law_web_deeds : He.DefD := ⟨("_law_web_deeds", none), "_law_web_deeds", "_law_web_deeds", defArgs s__law_web_deeds, defBody s__law_web_deeds, defScope s__law_web_deeds, [], []⟩
def d_law : He.DefD := ⟨("law", none), "law", "law", defArgs s_law, defBody s_law, defScope s_law, [], []⟩
def fn : List He.DefD := [d_TideError_UinitU, d_BadBy_UinitU, d_BadName_UinitU, d_Taken_UinitU, d_Full_UinitU, d_BadLength_UinitU, d_BadLate_UinitU, d_BadTie_UinitU, d_Used_UinitU, d_Missing_UinitU, d_NoMoment_UinitU, d_NoPoint_UinitU, d_NoTie_UinitU, d_is_number, d_is_whole, d_is_one_of, d_is_name, d_is_figures, d_read_number, d_read_bound, d_read_name, d_written, d_read_words, d_read_word, d_with_deed, d_write_deed, d_read_deed, d_Web_UinitU, d_Web_with_by, d_Web_with_moment, d_Web_with_span, d_Web_with_tie, d_Web_without, d_Web_without_tie, d_Web_moments, d_Web_spans, d_Web_ties, d_Web_points, d_Web_UeqU, d_Web_UlenU, d_Web_UreprU, d_woven, d_is_begin, d_are_lengths, d_is_lateness, d_is_used, d_are_bounds, d_need_free_name, d_need_point, d_write_web, d_read_web, d_need_follower, d__law_flow, d__law_draw, d__law_pick, d__law_same, d__law_names, d__law_model, d__law_points, d__law_web, d__law_wind, d__law_bond, d__law_drawn, d__law_stands, d__law_deed_line, d__law_web_deeds, d_law]
def fa0 : List He.Fa := [.glo "is_number", .glo "is_whole", .glo "is_one_of", .glo "is_name", .glo "is_figures", .glo "read_number", .glo "read_bound", .glo "read_name", .glo "written", .glo "read_words", .glo "read_word", .glo "with_deed", .glo "write_deed", .glo "read_deed", .glo "woven", .glo "is_begin", .glo "are_lengths", .glo "is_lateness", .glo "is_used", .glo "are_bounds", .glo "need_free_name", .glo "need_point", .glo "write_web", .glo "read_web", .glo "need_follower", .glo "_law_flow", .glo "_law_draw", .glo "_law_pick", .glo "_law_same", .glo "_law_names"]
def fa1 : List He.Fa := [.glo "_law_model", .glo "_law_points", .glo "_law_web", .glo "_law_wind", .glo "_law_bond", .glo "_law_drawn", .glo "_law_stands", .glo "_law_deed_line", .glo "_law_web_deeds", .glo "law", .free "ValueError", .free "LookupError", .free "isinstance", .free "int", .free "bool", .free "str", .free "all", .free "len", .free "zip", .free "list", .free "tuple", .free "any", .free "enumerate", .free "abs", .free "dict", .free "range", .free "repr", .str "LETTERS" "abcdefghijklmnopqrstuvwxyz", .int "LONGEST_NAME" 8, .str "FIGURES" "0123456789"]
def fa2 : List He.Fa := [.int "MOST_FIGURES" 9, .str "NONE" "-", .int "BY" 100, .str "START" "start", .int "MOST_BY" 1000, .int "MOST_MOMENTS" 10, .int "MOST_SPANS" 4, .int "MOST_TIES" 40, .int "MOST_LENGTH" 1000, .int "MOST_LATE" 1000, .int "MOST_BOUND" 1000, .glo "Web", .cls "Web", .mkr "Web", .noat "Web" "by", .noat "Web" "moment_rows", .noat "Web" "span_rows", .noat "Web" "tie_rows", .noat "Web" "__bool__", .meth "Web" "__init__", .meth "Web" "with_by", .meth "Web" "with_moment", .meth "Web" "with_span", .meth "Web" "with_tie", .meth "Web" "without", .meth "Web" "without_tie", .meth "Web" "moments", .meth "Web" "spans", .meth "Web" "ties", .meth "Web" "points"]
def fa3 : List He.Fa := [.meth "Web" "__eq__", .meth "Web" "__len__", .meth "Web" "__repr__", .glo "FORMS", .glo "READERS", .glo "FOLLOWERS", .glo "TideError", .glo "Missing", .glo "BadBy", .glo "BadName", .glo "Taken", .glo "Full", .glo "BadLength", .glo "BadLate", .glo "BadTie", .glo "Used", .glo "NoMoment", .glo "NoPoint", .glo "NoTie"]
def fa : List He.Fa := fa0 ++ fa1 ++ fa2 ++ fa3
def exl0 (K : PySem.W.Frag) : List Bool := [frxB K (He.ga K "FORMS") "by" ["number"], frxB K (He.ga K "FORMS") "moment" ["name"], frxB K (He.ga K "FORMS") "span" ["name", "name", "number", "number", "bound"], frxB K (He.ga K "FORMS") "tie" ["name", "name", "bound", "bound"], frxB K (He.ga K "FORMS") "without" ["name"], frxB K (He.ga K "FORMS") "untie" ["number"], decide (PySem.W.nsIn K (He.ga K "READERS") "number" = some (some (.ref (He.ga K "read_number")))), decide (PySem.W.nsIn K (He.ga K "READERS") "bound" = some (some (.ref (He.ga K "read_bound")))), decide (PySem.W.nsIn K (He.ga K "READERS") "name" = some (some (.ref (He.ga K "read_name")))), nonB K (He.ga K "FOLLOWERS") ["by"], frxB K (He.ga K "FOLLOWERS") "by" ["moment", "span", "tie"], frxB K (He.ga K "FOLLOWERS") "moment" ["moment", "span", "tie"], frxB K (He.ga K "FOLLOWERS") "span" ["span", "tie"], frxB K (He.ga K "FOLLOWERS") "tie" ["tie"], viB K "ValueError" "ValueError.__init__", viB K "LookupError" "LookupError.__init__", clsDefB K (He.ga K "TideError") (He.ma K (He.ga K "TideError") "__init__") "__init__", oxB bVE K (He.ga K "BadBy"), xfB K (He.ga K "BadBy"), initB K (He.ga K "BadBy")]
def exl1 (K : PySem.W.Frag) : List Bool := [decide (PySem.W.findIn K (.ref (He.ga K "BadBy")) "word" = some none), decide (PySem.W.findIn K (.ref (He.ga K "BadBy")) "by" = some none), decide (PySem.W.exmAny K (.ref (He.ga K "BadBy")) [.ref (He.ga K "TideError"), .ref (He.ga K "Missing")] = some true), oxB bVE K (He.ga K "BadName"), xfB K (He.ga K "BadName"), initB K (He.ga K "BadName"), decide (PySem.W.findIn K (.ref (He.ga K "BadName")) "word" = some none), decide (PySem.W.findIn K (.ref (He.ga K "BadName")) "name" = some none), decide (PySem.W.exmAny K (.ref (He.ga K "BadName")) [.ref (He.ga K "TideError"), .ref (He.ga K "Missing")] = some true), oxB bVE K (He.ga K "Taken"), xfB K (He.ga K "Taken"), initB K (He.ga K "Taken"), decide (PySem.W.findIn K (.ref (He.ga K "Taken")) "word" = some none), decide (PySem.W.findIn K (.ref (He.ga K "Taken")) "name" = some none), decide (PySem.W.exmAny K (.ref (He.ga K "Taken")) [.ref (He.ga K "TideError"), .ref (He.ga K "Missing")] = some true), oxB bVE K (He.ga K "Full"), xfB K (He.ga K "Full"), initB K (He.ga K "Full"), decide (PySem.W.findIn K (.ref (He.ga K "Full")) "word" = some none), decide (PySem.W.findIn K (.ref (He.ga K "Full")) "most" = some none)]
def exl2 (K : PySem.W.Frag) : List Bool := [decide (PySem.W.exmAny K (.ref (He.ga K "Full")) [.ref (He.ga K "TideError"), .ref (He.ga K "Missing")] = some true), oxB bVE K (He.ga K "BadLength"), xfB K (He.ga K "BadLength"), initB K (He.ga K "BadLength"), decide (PySem.W.findIn K (.ref (He.ga K "BadLength")) "word" = some none), decide (PySem.W.findIn K (.ref (He.ga K "BadLength")) "low" = some none), decide (PySem.W.findIn K (.ref (He.ga K "BadLength")) "high" = some none), decide (PySem.W.exmAny K (.ref (He.ga K "BadLength")) [.ref (He.ga K "TideError"), .ref (He.ga K "Missing")] = some true), oxB bVE K (He.ga K "BadLate"), xfB K (He.ga K "BadLate"), initB K (He.ga K "BadLate"), decide (PySem.W.findIn K (.ref (He.ga K "BadLate")) "word" = some none), decide (PySem.W.findIn K (.ref (He.ga K "BadLate")) "late" = some none), decide (PySem.W.exmAny K (.ref (He.ga K "BadLate")) [.ref (He.ga K "TideError"), .ref (He.ga K "Missing")] = some true), oxB bVE K (He.ga K "BadTie"), xfB K (He.ga K "BadTie"), initB K (He.ga K "BadTie"), decide (PySem.W.findIn K (.ref (He.ga K "BadTie")) "word" = some none), decide (PySem.W.findIn K (.ref (He.ga K "BadTie")) "least" = some none), decide (PySem.W.findIn K (.ref (He.ga K "BadTie")) "most" = some none)]
def exl3 (K : PySem.W.Frag) : List Bool := [decide (PySem.W.exmAny K (.ref (He.ga K "BadTie")) [.ref (He.ga K "TideError"), .ref (He.ga K "Missing")] = some true), oxB bVE K (He.ga K "Used"), xfB K (He.ga K "Used"), initB K (He.ga K "Used"), decide (PySem.W.findIn K (.ref (He.ga K "Used")) "word" = some none), decide (PySem.W.findIn K (.ref (He.ga K "Used")) "name" = some none), decide (PySem.W.exmAny K (.ref (He.ga K "Used")) [.ref (He.ga K "TideError"), .ref (He.ga K "Missing")] = some true), clsDefB K (He.ga K "Missing") (He.ma K (He.ga K "Missing") "__init__") "__init__", oxB bLE K (He.ga K "NoMoment"), xfB K (He.ga K "NoMoment"), initB K (He.ga K "NoMoment"), decide (PySem.W.findIn K (.ref (He.ga K "NoMoment")) "word" = some none), decide (PySem.W.findIn K (.ref (He.ga K "NoMoment")) "name" = some none), decide (PySem.W.exmAny K (.ref (He.ga K "NoMoment")) [.ref (He.ga K "TideError"), .ref (He.ga K "Missing")] = some true), oxB bLE K (He.ga K "NoPoint"), xfB K (He.ga K "NoPoint"), initB K (He.ga K "NoPoint"), decide (PySem.W.findIn K (.ref (He.ga K "NoPoint")) "word" = some none), decide (PySem.W.findIn K (.ref (He.ga K "NoPoint")) "name" = some none), decide (PySem.W.exmAny K (.ref (He.ga K "NoPoint")) [.ref (He.ga K "TideError"), .ref (He.ga K "Missing")] = some true)]
def exl4 (K : PySem.W.Frag) : List Bool := [oxB bLE K (He.ga K "NoTie"), xfB K (He.ga K "NoTie"), initB K (He.ga K "NoTie"), decide (PySem.W.findIn K (.ref (He.ga K "NoTie")) "word" = some none), decide (PySem.W.findIn K (.ref (He.ga K "NoTie")) "at" = some none), decide (PySem.W.exmAny K (.ref (He.ga K "NoTie")) [.ref (He.ga K "TideError"), .ref (He.ga K "Missing")] = some true), decide (PySem.W.findIn K (.ref (He.ga K "Web")) "__class__" = some (some (.builtin "object.__class__"))), decide (PySem.W.specialIn K (.builtin "object.__class__") "__get__" = some (some (.builtin "getset_descriptor.__get__"))), decide (PySem.W.takesIn K (.builtin "object.__class__") = some true), decide (PySem.W.mroIn K (He.ga K "Web") (.type "object") = some true), bmB K (He.ma K (He.ga K "Web") "with_by") "with_by", bmB K (He.ma K (He.ga K "Web") "with_moment") "with_moment", bmB K (He.ma K (He.ga K "Web") "without") "without", bmB K (He.ma K (He.ga K "Web") "without_tie") "without_tie", decide (PySem.W.findIn K (.ref (He.ga K "Web")) "__ne__" = some (some (.builtin "object.__ne__"))), decide (PySem.W.subIn K (.ref (He.ga K "Web")) (.type "object") = some true), decide (PySem.W.subIn K (.type "dict") (.ref (He.ga K "Web")) = some false), decide (PySem.W.kitOne K (.type "dict") (.ref (He.ga K "Web")) = some false), decide (PySem.W.subIn K (.type "list") (.ref (He.ga K "Web")) = some false), decide (PySem.W.kitOne K (.type "list") (.ref (He.ga K "Web")) = some false)]
def exl5 (K : PySem.W.Frag) : List Bool := [decide (PySem.W.subIn K (.type "str") (.ref (He.ga K "Web")) = some false), decide (PySem.W.kitOne K (.type "str") (.ref (He.ga K "Web")) = some false)]
def exl (K : PySem.W.Frag) : List Bool := exl0 K ++ exl1 K ++ exl2 K ++ exl3 K ++ exl4 K ++ exl5 K
def ex (K : PySem.W.Frag) : Bool := (exl K).all id
theorem exAt {K : PySem.W.Frag} (h : ex K = true) {b : Bool} (e : b ∈ exl K) : b = true := List.all_eq_true.mp h b e
theorem exAt0 {K : PySem.W.Frag} (h : ex K = true) (i : Nat) {b : Bool} (e : (exl0 K)[i]? = some b) : b = true := exAt h (List.mem_append_left _ (List.mem_append_left _ (List.mem_append_left _ (List.mem_append_left _ (List.mem_append_left _ (List.mem_of_getElem? e))))))
theorem exAt1 {K : PySem.W.Frag} (h : ex K = true) (i : Nat) {b : Bool} (e : (exl1 K)[i]? = some b) : b = true := exAt h (List.mem_append_left _ (List.mem_append_left _ (List.mem_append_left _ (List.mem_append_left _ (List.mem_append_right _ (List.mem_of_getElem? e))))))
theorem exAt2 {K : PySem.W.Frag} (h : ex K = true) (i : Nat) {b : Bool} (e : (exl2 K)[i]? = some b) : b = true := exAt h (List.mem_append_left _ (List.mem_append_left _ (List.mem_append_left _ (List.mem_append_right _ (List.mem_of_getElem? e)))))
theorem exAt3 {K : PySem.W.Frag} (h : ex K = true) (i : Nat) {b : Bool} (e : (exl3 K)[i]? = some b) : b = true := exAt h (List.mem_append_left _ (List.mem_append_left _ (List.mem_append_right _ (List.mem_of_getElem? e))))
theorem exAt4 {K : PySem.W.Frag} (h : ex K = true) (i : Nat) {b : Bool} (e : (exl4 K)[i]? = some b) : b = true := exAt h (List.mem_append_left _ (List.mem_append_right _ (List.mem_of_getElem? e)))
theorem exAt5 {K : PySem.W.Frag} (h : ex K = true) (i : Nat) {b : Bool} (e : (exl5 K)[i]? = some b) : b = true := exAt h (List.mem_append_right _ (List.mem_of_getElem? e))
/-- what the top has written -/
structure Tp (K : PySem.W.Frag) (mg : Str → Option Value) : Prop where
  c : He.SaysD fa fn K
  m : ex K = true
  glo : ∀ (i : Nat) (x : Str), fa[i]? = some (.glo x) → mg x = some (.ref (He.ga K x))
  free : ∀ (i : Nat) (x : Str), fa[i]? = some (.free x) → mg x = none
  int : ∀ (i : Nat) (x : Str) (n : Int), fa[i]? = some (.int x n) → ∃ u, mg x = some u ∧ RelV (.int n) u
  str : ∀ (i : Nat) (x z : Str), fa[i]? = some (.str x z) → ∃ u, mg x = some u ∧ RelV (.str z) u
theorem tp_mk {K : PySem.W.Frag} {h : Heap} {mg : Str → Option Value} (X : K.In h) (G : h.Ns mainGlobals mg) (c : He.SaysD fa fn K) (m : ex K = true) : Tp K mg :=
  ⟨c, m, fun i x e => He.glo_ok X G (c.fact i e), fun i x e => He.free_ok X G (c.fact i e), fun i x n e => let ⟨t, h⟩ := He.int_ok X G (c.fact i e); ⟨_, h, t, rfl⟩, fun i x z e => let ⟨t, h⟩ := He.str_ok X G (c.fact i e); ⟨_, h, t, rfl⟩⟩
section
variable {K : PySem.W.Frag} {mg : Str → Option Value}
theorem g_is_number (T : Tp K mg) : mg "is_number" = some (.ref (He.ga K "is_number")) := T.glo 0 _ rfl
theorem g_is_whole (T : Tp K mg) : mg "is_whole" = some (.ref (He.ga K "is_whole")) := T.glo 1 _ rfl
theorem g_is_one_of (T : Tp K mg) : mg "is_one_of" = some (.ref (He.ga K "is_one_of")) := T.glo 2 _ rfl
theorem g_is_name (T : Tp K mg) : mg "is_name" = some (.ref (He.ga K "is_name")) := T.glo 3 _ rfl
theorem g_is_figures (T : Tp K mg) : mg "is_figures" = some (.ref (He.ga K "is_figures")) := T.glo 4 _ rfl
theorem g_read_number (T : Tp K mg) : mg "read_number" = some (.ref (He.ga K "read_number")) := T.glo 5 _ rfl
theorem g_read_bound (T : Tp K mg) : mg "read_bound" = some (.ref (He.ga K "read_bound")) := T.glo 6 _ rfl
theorem g_read_name (T : Tp K mg) : mg "read_name" = some (.ref (He.ga K "read_name")) := T.glo 7 _ rfl
theorem g_written (T : Tp K mg) : mg "written" = some (.ref (He.ga K "written")) := T.glo 8 _ rfl
theorem g_read_words (T : Tp K mg) : mg "read_words" = some (.ref (He.ga K "read_words")) := T.glo 9 _ rfl
theorem g_read_word (T : Tp K mg) : mg "read_word" = some (.ref (He.ga K "read_word")) := T.glo 10 _ rfl
theorem g_with_deed (T : Tp K mg) : mg "with_deed" = some (.ref (He.ga K "with_deed")) := T.glo 11 _ rfl
theorem g_write_deed (T : Tp K mg) : mg "write_deed" = some (.ref (He.ga K "write_deed")) := T.glo 12 _ rfl
theorem g_read_deed (T : Tp K mg) : mg "read_deed" = some (.ref (He.ga K "read_deed")) := T.glo 13 _ rfl
theorem g_woven (T : Tp K mg) : mg "woven" = some (.ref (He.ga K "woven")) := T.glo 14 _ rfl
theorem g_is_begin (T : Tp K mg) : mg "is_begin" = some (.ref (He.ga K "is_begin")) := T.glo 15 _ rfl
theorem g_are_lengths (T : Tp K mg) : mg "are_lengths" = some (.ref (He.ga K "are_lengths")) := T.glo 16 _ rfl
theorem g_is_lateness (T : Tp K mg) : mg "is_lateness" = some (.ref (He.ga K "is_lateness")) := T.glo 17 _ rfl
theorem g_is_used (T : Tp K mg) : mg "is_used" = some (.ref (He.ga K "is_used")) := T.glo 18 _ rfl
theorem g_are_bounds (T : Tp K mg) : mg "are_bounds" = some (.ref (He.ga K "are_bounds")) := T.glo 19 _ rfl
theorem g_need_free_name (T : Tp K mg) : mg "need_free_name" = some (.ref (He.ga K "need_free_name")) := T.glo 20 _ rfl
theorem g_need_point (T : Tp K mg) : mg "need_point" = some (.ref (He.ga K "need_point")) := T.glo 21 _ rfl
theorem g_write_web (T : Tp K mg) : mg "write_web" = some (.ref (He.ga K "write_web")) := T.glo 22 _ rfl
theorem g_read_web (T : Tp K mg) : mg "read_web" = some (.ref (He.ga K "read_web")) := T.glo 23 _ rfl
theorem g_need_follower (T : Tp K mg) : mg "need_follower" = some (.ref (He.ga K "need_follower")) := T.glo 24 _ rfl
theorem g__law_flow (T : Tp K mg) : mg "_law_flow" = some (.ref (He.ga K "_law_flow")) := T.glo 25 _ rfl
theorem g__law_draw (T : Tp K mg) : mg "_law_draw" = some (.ref (He.ga K "_law_draw")) := T.glo 26 _ rfl
theorem g__law_pick (T : Tp K mg) : mg "_law_pick" = some (.ref (He.ga K "_law_pick")) := T.glo 27 _ rfl
theorem g__law_same (T : Tp K mg) : mg "_law_same" = some (.ref (He.ga K "_law_same")) := T.glo 28 _ rfl
theorem g__law_names (T : Tp K mg) : mg "_law_names" = some (.ref (He.ga K "_law_names")) := T.glo 29 _ rfl
theorem g__law_model (T : Tp K mg) : mg "_law_model" = some (.ref (He.ga K "_law_model")) := T.glo 30 _ rfl
theorem g__law_points (T : Tp K mg) : mg "_law_points" = some (.ref (He.ga K "_law_points")) := T.glo 31 _ rfl
theorem g__law_web (T : Tp K mg) : mg "_law_web" = some (.ref (He.ga K "_law_web")) := T.glo 32 _ rfl
theorem g__law_wind (T : Tp K mg) : mg "_law_wind" = some (.ref (He.ga K "_law_wind")) := T.glo 33 _ rfl
theorem g__law_bond (T : Tp K mg) : mg "_law_bond" = some (.ref (He.ga K "_law_bond")) := T.glo 34 _ rfl
theorem g__law_drawn (T : Tp K mg) : mg "_law_drawn" = some (.ref (He.ga K "_law_drawn")) := T.glo 35 _ rfl
theorem g__law_stands (T : Tp K mg) : mg "_law_stands" = some (.ref (He.ga K "_law_stands")) := T.glo 36 _ rfl
theorem g__law_deed_line (T : Tp K mg) : mg "_law_deed_line" = some (.ref (He.ga K "_law_deed_line")) := T.glo 37 _ rfl
theorem g__law_web_deeds (T : Tp K mg) : mg "_law_web_deeds" = some (.ref (He.ga K "_law_web_deeds")) := T.glo 38 _ rfl
theorem g_law (T : Tp K mg) : mg "law" = some (.ref (He.ga K "law")) := T.glo 39 _ rfl
theorem z_ValueError (T : Tp K mg) : mg "ValueError" = none := T.free 40 _ rfl
theorem z_LookupError (T : Tp K mg) : mg "LookupError" = none := T.free 41 _ rfl
theorem z_isinstance (T : Tp K mg) : mg "isinstance" = none := T.free 42 _ rfl
theorem z_int (T : Tp K mg) : mg "int" = none := T.free 43 _ rfl
theorem z_bool (T : Tp K mg) : mg "bool" = none := T.free 44 _ rfl
theorem z_str (T : Tp K mg) : mg "str" = none := T.free 45 _ rfl
theorem z_all (T : Tp K mg) : mg "all" = none := T.free 46 _ rfl
theorem z_len (T : Tp K mg) : mg "len" = none := T.free 47 _ rfl
theorem z_zip (T : Tp K mg) : mg "zip" = none := T.free 48 _ rfl
theorem z_list (T : Tp K mg) : mg "list" = none := T.free 49 _ rfl
theorem z_tuple (T : Tp K mg) : mg "tuple" = none := T.free 50 _ rfl
theorem z_any (T : Tp K mg) : mg "any" = none := T.free 51 _ rfl
theorem z_enumerate (T : Tp K mg) : mg "enumerate" = none := T.free 52 _ rfl
theorem z_abs (T : Tp K mg) : mg "abs" = none := T.free 53 _ rfl
theorem z_dict (T : Tp K mg) : mg "dict" = none := T.free 54 _ rfl
theorem z_range (T : Tp K mg) : mg "range" = none := T.free 55 _ rfl
theorem z_repr (T : Tp K mg) : mg "repr" = none := T.free 56 _ rfl
theorem c_LETTERS (T : Tp K mg) : ∃ u, mg "LETTERS" = some u ∧ RelV (.str "abcdefghijklmnopqrstuvwxyz") u := T.str 57 _ _ rfl
theorem c_LONGEST_NAME (T : Tp K mg) : ∃ u, mg "LONGEST_NAME" = some u ∧ RelV (.int 8) u := T.int 58 _ _ rfl
theorem c_FIGURES (T : Tp K mg) : ∃ u, mg "FIGURES" = some u ∧ RelV (.str "0123456789") u := T.str 59 _ _ rfl
theorem c_MOST_FIGURES (T : Tp K mg) : ∃ u, mg "MOST_FIGURES" = some u ∧ RelV (.int 9) u := T.int 60 _ _ rfl
theorem c_NONE (T : Tp K mg) : ∃ u, mg "NONE" = some u ∧ RelV (.str "-") u := T.str 61 _ _ rfl
theorem c_BY (T : Tp K mg) : ∃ u, mg "BY" = some u ∧ RelV (.int 100) u := T.int 62 _ _ rfl
theorem c_START (T : Tp K mg) : ∃ u, mg "START" = some u ∧ RelV (.str "start") u := T.str 63 _ _ rfl
theorem c_MOST_BY (T : Tp K mg) : ∃ u, mg "MOST_BY" = some u ∧ RelV (.int 1000) u := T.int 64 _ _ rfl
theorem c_MOST_MOMENTS (T : Tp K mg) : ∃ u, mg "MOST_MOMENTS" = some u ∧ RelV (.int 10) u := T.int 65 _ _ rfl
theorem c_MOST_SPANS (T : Tp K mg) : ∃ u, mg "MOST_SPANS" = some u ∧ RelV (.int 4) u := T.int 66 _ _ rfl
theorem c_MOST_TIES (T : Tp K mg) : ∃ u, mg "MOST_TIES" = some u ∧ RelV (.int 40) u := T.int 67 _ _ rfl
theorem c_MOST_LENGTH (T : Tp K mg) : ∃ u, mg "MOST_LENGTH" = some u ∧ RelV (.int 1000) u := T.int 68 _ _ rfl
theorem c_MOST_LATE (T : Tp K mg) : ∃ u, mg "MOST_LATE" = some u ∧ RelV (.int 1000) u := T.int 69 _ _ rfl
theorem c_MOST_BOUND (T : Tp K mg) : ∃ u, mg "MOST_BOUND" = some u ∧ RelV (.int 1000) u := T.int 70 _ _ rfl
theorem g_Web (T : Tp K mg) : mg "Web" = some (.ref (He.ga K "Web")) := T.glo 71 _ rfl
theorem cl_Web (T : Tp K mg) : Cls K (He.ga K "Web") := He.cls_ok (T.c.fact 72 (f := .cls "Web") rfl)
theorem mk_Web (T : Tp K mg) : Mk K (He.ga K "Web") (He.ma K (He.ga K "Web") "__init__") := He.mkr_ok (T.c.fact 73 (f := .mkr "Web") rfl)
theorem na_by (T : Tp K mg) : NoAttr K (He.ga K "Web") "by" := He.noat_ok (T.c.fact 74 (f := .noat "Web" "by") rfl)
theorem na_moment_rows (T : Tp K mg) : NoAttr K (He.ga K "Web") "moment_rows" := He.noat_ok (T.c.fact 75 (f := .noat "Web" "moment_rows") rfl)
theorem na_span_rows (T : Tp K mg) : NoAttr K (He.ga K "Web") "span_rows" := He.noat_ok (T.c.fact 76 (f := .noat "Web" "span_rows") rfl)
theorem na_tie_rows (T : Tp K mg) : NoAttr K (He.ga K "Web") "tie_rows" := He.noat_ok (T.c.fact 77 (f := .noat "Web" "tie_rows") rfl)
theorem na_bool (T : Tp K mg) : NoAttr K (He.ga K "Web") "__bool__" := He.noat_ok (T.c.fact 78 (f := .noat "Web" "__bool__") rfl)
theorem me_Web_UinitU (T : Tp K mg) : Meth K (He.ga K "Web") "__init__" (He.ma K (He.ga K "Web") "__init__") := He.meth_ok (T.c.fact 79 (f := .meth "Web" "__init__") rfl)
theorem me_Web_with_by (T : Tp K mg) : Meth K (He.ga K "Web") "with_by" (He.ma K (He.ga K "Web") "with_by") := He.meth_ok (T.c.fact 80 (f := .meth "Web" "with_by") rfl)
theorem me_Web_with_moment (T : Tp K mg) : Meth K (He.ga K "Web") "with_moment" (He.ma K (He.ga K "Web") "with_moment") := He.meth_ok (T.c.fact 81 (f := .meth "Web" "with_moment") rfl)
theorem me_Web_with_span (T : Tp K mg) : Meth K (He.ga K "Web") "with_span" (He.ma K (He.ga K "Web") "with_span") := He.meth_ok (T.c.fact 82 (f := .meth "Web" "with_span") rfl)
theorem me_Web_with_tie (T : Tp K mg) : Meth K (He.ga K "Web") "with_tie" (He.ma K (He.ga K "Web") "with_tie") := He.meth_ok (T.c.fact 83 (f := .meth "Web" "with_tie") rfl)
theorem me_Web_without (T : Tp K mg) : Meth K (He.ga K "Web") "without" (He.ma K (He.ga K "Web") "without") := He.meth_ok (T.c.fact 84 (f := .meth "Web" "without") rfl)
theorem me_Web_without_tie (T : Tp K mg) : Meth K (He.ga K "Web") "without_tie" (He.ma K (He.ga K "Web") "without_tie") := He.meth_ok (T.c.fact 85 (f := .meth "Web" "without_tie") rfl)
theorem me_Web_moments (T : Tp K mg) : Meth K (He.ga K "Web") "moments" (He.ma K (He.ga K "Web") "moments") := He.meth_ok (T.c.fact 86 (f := .meth "Web" "moments") rfl)
theorem me_Web_spans (T : Tp K mg) : Meth K (He.ga K "Web") "spans" (He.ma K (He.ga K "Web") "spans") := He.meth_ok (T.c.fact 87 (f := .meth "Web" "spans") rfl)
theorem me_Web_ties (T : Tp K mg) : Meth K (He.ga K "Web") "ties" (He.ma K (He.ga K "Web") "ties") := He.meth_ok (T.c.fact 88 (f := .meth "Web" "ties") rfl)
theorem me_Web_points (T : Tp K mg) : Meth K (He.ga K "Web") "points" (He.ma K (He.ga K "Web") "points") := He.meth_ok (T.c.fact 89 (f := .meth "Web" "points") rfl)
theorem me_Web_UeqU (T : Tp K mg) : Meth K (He.ga K "Web") "__eq__" (He.ma K (He.ga K "Web") "__eq__") := He.meth_ok (T.c.fact 90 (f := .meth "Web" "__eq__") rfl)
theorem me_Web_UlenU (T : Tp K mg) : Meth K (He.ga K "Web") "__len__" (He.ma K (He.ga K "Web") "__len__") := He.meth_ok (T.c.fact 91 (f := .meth "Web" "__len__") rfl)
theorem me_Web_UreprU (T : Tp K mg) : Meth K (He.ga K "Web") "__repr__" (He.ma K (He.ga K "Web") "__repr__") := He.meth_ok (T.c.fact 92 (f := .meth "Web" "__repr__") rfl)
theorem g_FORMS (T : Tp K mg) : mg "FORMS" = some (.ref (He.ga K "FORMS")) := T.glo 93 _ rfl
theorem g_READERS (T : Tp K mg) : mg "READERS" = some (.ref (He.ga K "READERS")) := T.glo 94 _ rfl
theorem g_FOLLOWERS (T : Tp K mg) : mg "FOLLOWERS" = some (.ref (He.ga K "FOLLOWERS")) := T.glo 95 _ rfl
theorem g_TideError (T : Tp K mg) : mg "TideError" = some (.ref (He.ga K "TideError")) := T.glo 96 _ rfl
theorem g_Missing (T : Tp K mg) : mg "Missing" = some (.ref (He.ga K "Missing")) := T.glo 97 _ rfl
theorem g_BadBy (T : Tp K mg) : mg "BadBy" = some (.ref (He.ga K "BadBy")) := T.glo 98 _ rfl
theorem g_BadName (T : Tp K mg) : mg "BadName" = some (.ref (He.ga K "BadName")) := T.glo 99 _ rfl
theorem g_Taken (T : Tp K mg) : mg "Taken" = some (.ref (He.ga K "Taken")) := T.glo 100 _ rfl
theorem g_Full (T : Tp K mg) : mg "Full" = some (.ref (He.ga K "Full")) := T.glo 101 _ rfl
theorem g_BadLength (T : Tp K mg) : mg "BadLength" = some (.ref (He.ga K "BadLength")) := T.glo 102 _ rfl
theorem g_BadLate (T : Tp K mg) : mg "BadLate" = some (.ref (He.ga K "BadLate")) := T.glo 103 _ rfl
theorem g_BadTie (T : Tp K mg) : mg "BadTie" = some (.ref (He.ga K "BadTie")) := T.glo 104 _ rfl
theorem g_Used (T : Tp K mg) : mg "Used" = some (.ref (He.ga K "Used")) := T.glo 105 _ rfl
theorem g_NoMoment (T : Tp K mg) : mg "NoMoment" = some (.ref (He.ga K "NoMoment")) := T.glo 106 _ rfl
theorem g_NoPoint (T : Tp K mg) : mg "NoPoint" = some (.ref (He.ga K "NoPoint")) := T.glo 107 _ rfl
theorem g_NoTie (T : Tp K mg) : mg "NoTie" = some (.ref (He.ga K "NoTie")) := T.glo 108 _ rfl
theorem frx_FORMS_by (T : Tp K mg) : frxB K (He.ga K "FORMS") "by" ["number"] = true := exAt0 T.m 0 rfl
theorem frx_FORMS_moment (T : Tp K mg) : frxB K (He.ga K "FORMS") "moment" ["name"] = true := exAt0 T.m 1 rfl
theorem frx_FORMS_span (T : Tp K mg) : frxB K (He.ga K "FORMS") "span" ["name", "name", "number", "number", "bound"] = true := exAt0 T.m 2 rfl
theorem frx_FORMS_tie (T : Tp K mg) : frxB K (He.ga K "FORMS") "tie" ["name", "name", "bound", "bound"] = true := exAt0 T.m 3 rfl
theorem frx_FORMS_without (T : Tp K mg) : frxB K (He.ga K "FORMS") "without" ["name"] = true := exAt0 T.m 4 rfl
theorem frx_FORMS_untie (T : Tp K mg) : frxB K (He.ga K "FORMS") "untie" ["number"] = true := exAt0 T.m 5 rfl
theorem nt_READERS_number (T : Tp K mg) : PySem.W.nsIn K (He.ga K "READERS") "number" = some (some (.ref (He.ga K "read_number"))) := of_decide_eq_true (exAt0 T.m 6 rfl)
theorem nt_READERS_bound (T : Tp K mg) : PySem.W.nsIn K (He.ga K "READERS") "bound" = some (some (.ref (He.ga K "read_bound"))) := of_decide_eq_true (exAt0 T.m 7 rfl)
theorem nt_READERS_name (T : Tp K mg) : PySem.W.nsIn K (He.ga K "READERS") "name" = some (some (.ref (He.ga K "read_name"))) := of_decide_eq_true (exAt0 T.m 8 rfl)
theorem non_FOLLOWERS (T : Tp K mg) : nonB K (He.ga K "FOLLOWERS") ["by"] = true := exAt0 T.m 9 rfl
theorem frx_FOLLOWERS_by (T : Tp K mg) : frxB K (He.ga K "FOLLOWERS") "by" ["moment", "span", "tie"] = true := exAt0 T.m 10 rfl
theorem frx_FOLLOWERS_moment (T : Tp K mg) : frxB K (He.ga K "FOLLOWERS") "moment" ["moment", "span", "tie"] = true := exAt0 T.m 11 rfl
theorem frx_FOLLOWERS_span (T : Tp K mg) : frxB K (He.ga K "FOLLOWERS") "span" ["span", "tie"] = true := exAt0 T.m 12 rfl
theorem frx_FOLLOWERS_tie (T : Tp K mg) : frxB K (He.ga K "FOLLOWERS") "tie" ["tie"] = true := exAt0 T.m 13 rfl
theorem vi_ValueError (T : Tp K mg) : PySem.W.findCls K (.type "ValueError") (.type "type") "__init__" = some (.val (.builtin "ValueError.__init__")) := viB_ok (exAt0 T.m 14 rfl)
theorem vi_LookupError (T : Tp K mg) : PySem.W.findCls K (.type "LookupError") (.type "type") "__init__" = some (.val (.builtin "LookupError.__init__")) := viB_ok (exAt0 T.m 15 rfl)
theorem cd_TideError (T : Tp K mg) : ClsDef K (He.ga K "TideError") (He.ma K (He.ga K "TideError") "__init__") "__init__" := clsDefB_ok (exAt0 T.m 16 rfl)
theorem oe_BadBy (T : Tp K mg) : OxC bVE K (He.ga K "BadBy") := oxB_ok bVE_ok (exAt0 T.m 17 rfl)
theorem xf_BadBy (T : Tp K mg) : XfC K (He.ga K "BadBy") := xfB_ok (exAt0 T.m 18 rfl)
theorem in_BadBy (T : Tp K mg) : InitAt K (He.ga K "BadBy") (He.ma K (He.ga K "BadBy") "__init__") := initB_ok (exAt0 T.m 19 rfl)
theorem nf_BadBy_word (T : Tp K mg) : PySem.W.findIn K (.ref (He.ga K "BadBy")) "word" = some none := of_decide_eq_true (exAt1 T.m 0 rfl)
theorem nf_BadBy_by (T : Tp K mg) : PySem.W.findIn K (.ref (He.ga K "BadBy")) "by" = some none := of_decide_eq_true (exAt1 T.m 1 rfl)
theorem et_BadBy_read_web_0 (T : Tp K mg) : PySem.W.exmAny K (.ref (He.ga K "BadBy")) [.ref (He.ga K "TideError"), .ref (He.ga K "Missing")] = some true := of_decide_eq_true (exAt1 T.m 2 rfl)
theorem oe_BadName (T : Tp K mg) : OxC bVE K (He.ga K "BadName") := oxB_ok bVE_ok (exAt1 T.m 3 rfl)
theorem xf_BadName (T : Tp K mg) : XfC K (He.ga K "BadName") := xfB_ok (exAt1 T.m 4 rfl)
theorem in_BadName (T : Tp K mg) : InitAt K (He.ga K "BadName") (He.ma K (He.ga K "BadName") "__init__") := initB_ok (exAt1 T.m 5 rfl)
theorem nf_BadName_word (T : Tp K mg) : PySem.W.findIn K (.ref (He.ga K "BadName")) "word" = some none := of_decide_eq_true (exAt1 T.m 6 rfl)
theorem nf_BadName_name (T : Tp K mg) : PySem.W.findIn K (.ref (He.ga K "BadName")) "name" = some none := of_decide_eq_true (exAt1 T.m 7 rfl)
theorem et_BadName_read_web_0 (T : Tp K mg) : PySem.W.exmAny K (.ref (He.ga K "BadName")) [.ref (He.ga K "TideError"), .ref (He.ga K "Missing")] = some true := of_decide_eq_true (exAt1 T.m 8 rfl)
theorem oe_Taken (T : Tp K mg) : OxC bVE K (He.ga K "Taken") := oxB_ok bVE_ok (exAt1 T.m 9 rfl)
theorem xf_Taken (T : Tp K mg) : XfC K (He.ga K "Taken") := xfB_ok (exAt1 T.m 10 rfl)
theorem in_Taken (T : Tp K mg) : InitAt K (He.ga K "Taken") (He.ma K (He.ga K "Taken") "__init__") := initB_ok (exAt1 T.m 11 rfl)
theorem nf_Taken_word (T : Tp K mg) : PySem.W.findIn K (.ref (He.ga K "Taken")) "word" = some none := of_decide_eq_true (exAt1 T.m 12 rfl)
theorem nf_Taken_name (T : Tp K mg) : PySem.W.findIn K (.ref (He.ga K "Taken")) "name" = some none := of_decide_eq_true (exAt1 T.m 13 rfl)
theorem et_Taken_read_web_0 (T : Tp K mg) : PySem.W.exmAny K (.ref (He.ga K "Taken")) [.ref (He.ga K "TideError"), .ref (He.ga K "Missing")] = some true := of_decide_eq_true (exAt1 T.m 14 rfl)
theorem oe_Full (T : Tp K mg) : OxC bVE K (He.ga K "Full") := oxB_ok bVE_ok (exAt1 T.m 15 rfl)
theorem xf_Full (T : Tp K mg) : XfC K (He.ga K "Full") := xfB_ok (exAt1 T.m 16 rfl)
theorem in_Full (T : Tp K mg) : InitAt K (He.ga K "Full") (He.ma K (He.ga K "Full") "__init__") := initB_ok (exAt1 T.m 17 rfl)
theorem nf_Full_word (T : Tp K mg) : PySem.W.findIn K (.ref (He.ga K "Full")) "word" = some none := of_decide_eq_true (exAt1 T.m 18 rfl)
theorem nf_Full_most (T : Tp K mg) : PySem.W.findIn K (.ref (He.ga K "Full")) "most" = some none := of_decide_eq_true (exAt1 T.m 19 rfl)
theorem et_Full_read_web_0 (T : Tp K mg) : PySem.W.exmAny K (.ref (He.ga K "Full")) [.ref (He.ga K "TideError"), .ref (He.ga K "Missing")] = some true := of_decide_eq_true (exAt2 T.m 0 rfl)
theorem oe_BadLength (T : Tp K mg) : OxC bVE K (He.ga K "BadLength") := oxB_ok bVE_ok (exAt2 T.m 1 rfl)
theorem xf_BadLength (T : Tp K mg) : XfC K (He.ga K "BadLength") := xfB_ok (exAt2 T.m 2 rfl)
theorem in_BadLength (T : Tp K mg) : InitAt K (He.ga K "BadLength") (He.ma K (He.ga K "BadLength") "__init__") := initB_ok (exAt2 T.m 3 rfl)
theorem nf_BadLength_word (T : Tp K mg) : PySem.W.findIn K (.ref (He.ga K "BadLength")) "word" = some none := of_decide_eq_true (exAt2 T.m 4 rfl)
theorem nf_BadLength_low (T : Tp K mg) : PySem.W.findIn K (.ref (He.ga K "BadLength")) "low" = some none := of_decide_eq_true (exAt2 T.m 5 rfl)
theorem nf_BadLength_high (T : Tp K mg) : PySem.W.findIn K (.ref (He.ga K "BadLength")) "high" = some none := of_decide_eq_true (exAt2 T.m 6 rfl)
theorem et_BadLength_read_web_0 (T : Tp K mg) : PySem.W.exmAny K (.ref (He.ga K "BadLength")) [.ref (He.ga K "TideError"), .ref (He.ga K "Missing")] = some true := of_decide_eq_true (exAt2 T.m 7 rfl)
theorem oe_BadLate (T : Tp K mg) : OxC bVE K (He.ga K "BadLate") := oxB_ok bVE_ok (exAt2 T.m 8 rfl)
theorem xf_BadLate (T : Tp K mg) : XfC K (He.ga K "BadLate") := xfB_ok (exAt2 T.m 9 rfl)
theorem in_BadLate (T : Tp K mg) : InitAt K (He.ga K "BadLate") (He.ma K (He.ga K "BadLate") "__init__") := initB_ok (exAt2 T.m 10 rfl)
theorem nf_BadLate_word (T : Tp K mg) : PySem.W.findIn K (.ref (He.ga K "BadLate")) "word" = some none := of_decide_eq_true (exAt2 T.m 11 rfl)
theorem nf_BadLate_late (T : Tp K mg) : PySem.W.findIn K (.ref (He.ga K "BadLate")) "late" = some none := of_decide_eq_true (exAt2 T.m 12 rfl)
theorem et_BadLate_read_web_0 (T : Tp K mg) : PySem.W.exmAny K (.ref (He.ga K "BadLate")) [.ref (He.ga K "TideError"), .ref (He.ga K "Missing")] = some true := of_decide_eq_true (exAt2 T.m 13 rfl)
theorem oe_BadTie (T : Tp K mg) : OxC bVE K (He.ga K "BadTie") := oxB_ok bVE_ok (exAt2 T.m 14 rfl)
theorem xf_BadTie (T : Tp K mg) : XfC K (He.ga K "BadTie") := xfB_ok (exAt2 T.m 15 rfl)
theorem in_BadTie (T : Tp K mg) : InitAt K (He.ga K "BadTie") (He.ma K (He.ga K "BadTie") "__init__") := initB_ok (exAt2 T.m 16 rfl)
theorem nf_BadTie_word (T : Tp K mg) : PySem.W.findIn K (.ref (He.ga K "BadTie")) "word" = some none := of_decide_eq_true (exAt2 T.m 17 rfl)
theorem nf_BadTie_least (T : Tp K mg) : PySem.W.findIn K (.ref (He.ga K "BadTie")) "least" = some none := of_decide_eq_true (exAt2 T.m 18 rfl)
theorem nf_BadTie_most (T : Tp K mg) : PySem.W.findIn K (.ref (He.ga K "BadTie")) "most" = some none := of_decide_eq_true (exAt2 T.m 19 rfl)
theorem et_BadTie_read_web_0 (T : Tp K mg) : PySem.W.exmAny K (.ref (He.ga K "BadTie")) [.ref (He.ga K "TideError"), .ref (He.ga K "Missing")] = some true := of_decide_eq_true (exAt3 T.m 0 rfl)
theorem oe_Used (T : Tp K mg) : OxC bVE K (He.ga K "Used") := oxB_ok bVE_ok (exAt3 T.m 1 rfl)
theorem xf_Used (T : Tp K mg) : XfC K (He.ga K "Used") := xfB_ok (exAt3 T.m 2 rfl)
theorem in_Used (T : Tp K mg) : InitAt K (He.ga K "Used") (He.ma K (He.ga K "Used") "__init__") := initB_ok (exAt3 T.m 3 rfl)
theorem nf_Used_word (T : Tp K mg) : PySem.W.findIn K (.ref (He.ga K "Used")) "word" = some none := of_decide_eq_true (exAt3 T.m 4 rfl)
theorem nf_Used_name (T : Tp K mg) : PySem.W.findIn K (.ref (He.ga K "Used")) "name" = some none := of_decide_eq_true (exAt3 T.m 5 rfl)
theorem et_Used_read_web_0 (T : Tp K mg) : PySem.W.exmAny K (.ref (He.ga K "Used")) [.ref (He.ga K "TideError"), .ref (He.ga K "Missing")] = some true := of_decide_eq_true (exAt3 T.m 6 rfl)
theorem cd_Missing (T : Tp K mg) : ClsDef K (He.ga K "Missing") (He.ma K (He.ga K "Missing") "__init__") "__init__" := clsDefB_ok (exAt3 T.m 7 rfl)
theorem oe_NoMoment (T : Tp K mg) : OxC bLE K (He.ga K "NoMoment") := oxB_ok bLE_ok (exAt3 T.m 8 rfl)
theorem xf_NoMoment (T : Tp K mg) : XfC K (He.ga K "NoMoment") := xfB_ok (exAt3 T.m 9 rfl)
theorem in_NoMoment (T : Tp K mg) : InitAt K (He.ga K "NoMoment") (He.ma K (He.ga K "NoMoment") "__init__") := initB_ok (exAt3 T.m 10 rfl)
theorem nf_NoMoment_word (T : Tp K mg) : PySem.W.findIn K (.ref (He.ga K "NoMoment")) "word" = some none := of_decide_eq_true (exAt3 T.m 11 rfl)
theorem nf_NoMoment_name (T : Tp K mg) : PySem.W.findIn K (.ref (He.ga K "NoMoment")) "name" = some none := of_decide_eq_true (exAt3 T.m 12 rfl)
theorem et_NoMoment_read_web_0 (T : Tp K mg) : PySem.W.exmAny K (.ref (He.ga K "NoMoment")) [.ref (He.ga K "TideError"), .ref (He.ga K "Missing")] = some true := of_decide_eq_true (exAt3 T.m 13 rfl)
theorem oe_NoPoint (T : Tp K mg) : OxC bLE K (He.ga K "NoPoint") := oxB_ok bLE_ok (exAt3 T.m 14 rfl)
theorem xf_NoPoint (T : Tp K mg) : XfC K (He.ga K "NoPoint") := xfB_ok (exAt3 T.m 15 rfl)
theorem in_NoPoint (T : Tp K mg) : InitAt K (He.ga K "NoPoint") (He.ma K (He.ga K "NoPoint") "__init__") := initB_ok (exAt3 T.m 16 rfl)
theorem nf_NoPoint_word (T : Tp K mg) : PySem.W.findIn K (.ref (He.ga K "NoPoint")) "word" = some none := of_decide_eq_true (exAt3 T.m 17 rfl)
theorem nf_NoPoint_name (T : Tp K mg) : PySem.W.findIn K (.ref (He.ga K "NoPoint")) "name" = some none := of_decide_eq_true (exAt3 T.m 18 rfl)
theorem et_NoPoint_read_web_0 (T : Tp K mg) : PySem.W.exmAny K (.ref (He.ga K "NoPoint")) [.ref (He.ga K "TideError"), .ref (He.ga K "Missing")] = some true := of_decide_eq_true (exAt3 T.m 19 rfl)
theorem oe_NoTie (T : Tp K mg) : OxC bLE K (He.ga K "NoTie") := oxB_ok bLE_ok (exAt4 T.m 0 rfl)
theorem xf_NoTie (T : Tp K mg) : XfC K (He.ga K "NoTie") := xfB_ok (exAt4 T.m 1 rfl)
theorem in_NoTie (T : Tp K mg) : InitAt K (He.ga K "NoTie") (He.ma K (He.ga K "NoTie") "__init__") := initB_ok (exAt4 T.m 2 rfl)
theorem nf_NoTie_word (T : Tp K mg) : PySem.W.findIn K (.ref (He.ga K "NoTie")) "word" = some none := of_decide_eq_true (exAt4 T.m 3 rfl)
theorem nf_NoTie_at (T : Tp K mg) : PySem.W.findIn K (.ref (He.ga K "NoTie")) "at" = some none := of_decide_eq_true (exAt4 T.m 4 rfl)
theorem et_NoTie_read_web_0 (T : Tp K mg) : PySem.W.exmAny K (.ref (He.ga K "NoTie")) [.ref (He.ga K "TideError"), .ref (He.ga K "Missing")] = some true := of_decide_eq_true (exAt4 T.m 5 rfl)
theorem ti0_Web (T : Tp K mg) : PySem.W.findIn K (.ref (He.ga K "Web")) "__class__" = some (some (.builtin "object.__class__")) := of_decide_eq_true (exAt4 T.m 6 rfl)
theorem ti1_Web (T : Tp K mg) : PySem.W.specialIn K (.builtin "object.__class__") "__get__" = some (some (.builtin "getset_descriptor.__get__")) := of_decide_eq_true (exAt4 T.m 7 rfl)
theorem ti2_Web (T : Tp K mg) : PySem.W.takesIn K (.builtin "object.__class__") = some true := of_decide_eq_true (exAt4 T.m 8 rfl)
theorem ti3_Web (T : Tp K mg) : PySem.W.mroIn K (He.ga K "Web") (.type "object") = some true := of_decide_eq_true (exAt4 T.m 9 rfl)
theorem bm_Web_with_by (T : Tp K mg) : BMeth K (He.ga K "Web") "with_by" (He.ma K (He.ga K "Web") "with_by") := bm_ok (me_Web_with_by T) (exAt4 T.m 10 rfl)
theorem bm_Web_with_moment (T : Tp K mg) : BMeth K (He.ga K "Web") "with_moment" (He.ma K (He.ga K "Web") "with_moment") := bm_ok (me_Web_with_moment T) (exAt4 T.m 11 rfl)
theorem bm_Web_without (T : Tp K mg) : BMeth K (He.ga K "Web") "without" (He.ma K (He.ga K "Web") "without") := bm_ok (me_Web_without T) (exAt4 T.m 12 rfl)
theorem bm_Web_without_tie (T : Tp K mg) : BMeth K (He.ga K "Web") "without_tie" (He.ma K (He.ga K "Web") "without_tie") := bm_ok (me_Web_without_tie T) (exAt4 T.m 13 rfl)
theorem ne_Web (T : Tp K mg) : PySem.W.findIn K (.ref (He.ga K "Web")) "__ne__" = some (some (.builtin "object.__ne__")) := of_decide_eq_true (exAt4 T.m 14 rfl)
theorem ob_Web (T : Tp K mg) : PySem.W.subIn K (.ref (He.ga K "Web")) (.type "object") = some true := of_decide_eq_true (exAt4 T.m 15 rfl)
theorem sd_Web (T : Tp K mg) : PySem.W.subIn K (.type "dict") (.ref (He.ga K "Web")) = some false := of_decide_eq_true (exAt4 T.m 16 rfl)
theorem kd_Web (T : Tp K mg) : PySem.W.kitOne K (.type "dict") (.ref (He.ga K "Web")) = some false := of_decide_eq_true (exAt4 T.m 17 rfl)
theorem sl_Web (T : Tp K mg) : PySem.W.subIn K (.type "list") (.ref (He.ga K "Web")) = some false := of_decide_eq_true (exAt4 T.m 18 rfl)
theorem kl_Web (T : Tp K mg) : PySem.W.kitOne K (.type "list") (.ref (He.ga K "Web")) = some false := of_decide_eq_true (exAt4 T.m 19 rfl)
theorem sz_Web (T : Tp K mg) : PySem.W.subIn K (.type "str") (.ref (He.ga K "Web")) = some false := of_decide_eq_true (exAt5 T.m 0 rfl)
theorem kz_Web (T : Tp K mg) : PySem.W.kitOne K (.type "str") (.ref (He.ga K "Web")) = some false := of_decide_eq_true (exAt5 T.m 1 rfl)
theorem f_TideError_UinitU (T : Tp K mg) : ∃ fd, FunD K "__init__" "TideError.__init__" (defArgs s_TideError_UinitU) (defBody s_TideError_UinitU) (defScope s_TideError_UinitU) [(V.str "TideError" : V), (V.str "refused" : V)] [] (He.ma K (He.ga K "TideError") "__init__") fd := T.c.def_ 0 (d := d_TideError_UinitU) rfl
theorem f_BadBy_UinitU (T : Tp K mg) : ∃ fd, FunD K "__init__" "BadBy.__init__" (defArgs s_BadBy_UinitU) (defBody s_BadBy_UinitU) (defScope s_BadBy_UinitU) [] [] (He.ma K (He.ga K "BadBy") "__init__") fd := T.c.def_ 1 (d := d_BadBy_UinitU) rfl
theorem b_BadBy_UinitU {f : Addr} {fd : FuncData} (F : FunD K "__init__" "BadBy.__init__" (defArgs s_BadBy_UinitU) (defBody s_BadBy_UinitU) (defScope s_BadBy_UinitU) [] [] f fd) : Binds K fd ["self", "by"] [] := F.bindsN fun _ _ _ _ _ _ us hl => match us, hl with | [_, _], _ => rfl
theorem f_BadName_UinitU (T : Tp K mg) : ∃ fd, FunD K "__init__" "BadName.__init__" (defArgs s_BadName_UinitU) (defBody s_BadName_UinitU) (defScope s_BadName_UinitU) [] [] (He.ma K (He.ga K "BadName") "__init__") fd := T.c.def_ 2 (d := d_BadName_UinitU) rfl
theorem b_BadName_UinitU {f : Addr} {fd : FuncData} (F : FunD K "__init__" "BadName.__init__" (defArgs s_BadName_UinitU) (defBody s_BadName_UinitU) (defScope s_BadName_UinitU) [] [] f fd) : Binds K fd ["self", "name"] [] := F.bindsN fun _ _ _ _ _ _ us hl => match us, hl with | [_, _], _ => rfl
theorem f_Taken_UinitU (T : Tp K mg) : ∃ fd, FunD K "__init__" "Taken.__init__" (defArgs s_Taken_UinitU) (defBody s_Taken_UinitU) (defScope s_Taken_UinitU) [] [] (He.ma K (He.ga K "Taken") "__init__") fd := T.c.def_ 3 (d := d_Taken_UinitU) rfl
theorem b_Taken_UinitU {f : Addr} {fd : FuncData} (F : FunD K "__init__" "Taken.__init__" (defArgs s_Taken_UinitU) (defBody s_Taken_UinitU) (defScope s_Taken_UinitU) [] [] f fd) : Binds K fd ["self", "name"] [] := F.bindsN fun _ _ _ _ _ _ us hl => match us, hl with | [_, _], _ => rfl
theorem f_Full_UinitU (T : Tp K mg) : ∃ fd, FunD K "__init__" "Full.__init__" (defArgs s_Full_UinitU) (defBody s_Full_UinitU) (defScope s_Full_UinitU) [] [] (He.ma K (He.ga K "Full") "__init__") fd := T.c.def_ 4 (d := d_Full_UinitU) rfl
theorem b_Full_UinitU {f : Addr} {fd : FuncData} (F : FunD K "__init__" "Full.__init__" (defArgs s_Full_UinitU) (defBody s_Full_UinitU) (defScope s_Full_UinitU) [] [] f fd) : Binds K fd ["self", "most"] [] := F.bindsN fun _ _ _ _ _ _ us hl => match us, hl with | [_, _], _ => rfl
theorem f_BadLength_UinitU (T : Tp K mg) : ∃ fd, FunD K "__init__" "BadLength.__init__" (defArgs s_BadLength_UinitU) (defBody s_BadLength_UinitU) (defScope s_BadLength_UinitU) [] [] (He.ma K (He.ga K "BadLength") "__init__") fd := T.c.def_ 5 (d := d_BadLength_UinitU) rfl
theorem b_BadLength_UinitU {f : Addr} {fd : FuncData} (F : FunD K "__init__" "BadLength.__init__" (defArgs s_BadLength_UinitU) (defBody s_BadLength_UinitU) (defScope s_BadLength_UinitU) [] [] f fd) : Binds K fd ["self", "low", "high"] [] := F.bindsN fun _ _ _ _ _ _ us hl => match us, hl with | [_, _, _], _ => rfl
theorem f_BadLate_UinitU (T : Tp K mg) : ∃ fd, FunD K "__init__" "BadLate.__init__" (defArgs s_BadLate_UinitU) (defBody s_BadLate_UinitU) (defScope s_BadLate_UinitU) [] [] (He.ma K (He.ga K "BadLate") "__init__") fd := T.c.def_ 6 (d := d_BadLate_UinitU) rfl
theorem b_BadLate_UinitU {f : Addr} {fd : FuncData} (F : FunD K "__init__" "BadLate.__init__" (defArgs s_BadLate_UinitU) (defBody s_BadLate_UinitU) (defScope s_BadLate_UinitU) [] [] f fd) : Binds K fd ["self", "late"] [] := F.bindsN fun _ _ _ _ _ _ us hl => match us, hl with | [_, _], _ => rfl
theorem f_BadTie_UinitU (T : Tp K mg) : ∃ fd, FunD K "__init__" "BadTie.__init__" (defArgs s_BadTie_UinitU) (defBody s_BadTie_UinitU) (defScope s_BadTie_UinitU) [] [] (He.ma K (He.ga K "BadTie") "__init__") fd := T.c.def_ 7 (d := d_BadTie_UinitU) rfl
theorem b_BadTie_UinitU {f : Addr} {fd : FuncData} (F : FunD K "__init__" "BadTie.__init__" (defArgs s_BadTie_UinitU) (defBody s_BadTie_UinitU) (defScope s_BadTie_UinitU) [] [] f fd) : Binds K fd ["self", "least", "most"] [] := F.bindsN fun _ _ _ _ _ _ us hl => match us, hl with | [_, _, _], _ => rfl
theorem f_Used_UinitU (T : Tp K mg) : ∃ fd, FunD K "__init__" "Used.__init__" (defArgs s_Used_UinitU) (defBody s_Used_UinitU) (defScope s_Used_UinitU) [] [] (He.ma K (He.ga K "Used") "__init__") fd := T.c.def_ 8 (d := d_Used_UinitU) rfl
theorem b_Used_UinitU {f : Addr} {fd : FuncData} (F : FunD K "__init__" "Used.__init__" (defArgs s_Used_UinitU) (defBody s_Used_UinitU) (defScope s_Used_UinitU) [] [] f fd) : Binds K fd ["self", "name"] [] := F.bindsN fun _ _ _ _ _ _ us hl => match us, hl with | [_, _], _ => rfl
theorem f_Missing_UinitU (T : Tp K mg) : ∃ fd, FunD K "__init__" "Missing.__init__" (defArgs s_Missing_UinitU) (defBody s_Missing_UinitU) (defScope s_Missing_UinitU) [(V.str "Missing" : V), (V.str "refused" : V)] [] (He.ma K (He.ga K "Missing") "__init__") fd := T.c.def_ 9 (d := d_Missing_UinitU) rfl
theorem f_NoMoment_UinitU (T : Tp K mg) : ∃ fd, FunD K "__init__" "NoMoment.__init__" (defArgs s_NoMoment_UinitU) (defBody s_NoMoment_UinitU) (defScope s_NoMoment_UinitU) [] [] (He.ma K (He.ga K "NoMoment") "__init__") fd := T.c.def_ 10 (d := d_NoMoment_UinitU) rfl
theorem b_NoMoment_UinitU {f : Addr} {fd : FuncData} (F : FunD K "__init__" "NoMoment.__init__" (defArgs s_NoMoment_UinitU) (defBody s_NoMoment_UinitU) (defScope s_NoMoment_UinitU) [] [] f fd) : Binds K fd ["self", "name"] [] := F.bindsN fun _ _ _ _ _ _ us hl => match us, hl with | [_, _], _ => rfl
theorem f_NoPoint_UinitU (T : Tp K mg) : ∃ fd, FunD K "__init__" "NoPoint.__init__" (defArgs s_NoPoint_UinitU) (defBody s_NoPoint_UinitU) (defScope s_NoPoint_UinitU) [] [] (He.ma K (He.ga K "NoPoint") "__init__") fd := T.c.def_ 11 (d := d_NoPoint_UinitU) rfl
theorem b_NoPoint_UinitU {f : Addr} {fd : FuncData} (F : FunD K "__init__" "NoPoint.__init__" (defArgs s_NoPoint_UinitU) (defBody s_NoPoint_UinitU) (defScope s_NoPoint_UinitU) [] [] f fd) : Binds K fd ["self", "name"] [] := F.bindsN fun _ _ _ _ _ _ us hl => match us, hl with | [_, _], _ => rfl
theorem f_NoTie_UinitU (T : Tp K mg) : ∃ fd, FunD K "__init__" "NoTie.__init__" (defArgs s_NoTie_UinitU) (defBody s_NoTie_UinitU) (defScope s_NoTie_UinitU) [] [] (He.ma K (He.ga K "NoTie") "__init__") fd := T.c.def_ 12 (d := d_NoTie_UinitU) rfl
theorem b_NoTie_UinitU {f : Addr} {fd : FuncData} (F : FunD K "__init__" "NoTie.__init__" (defArgs s_NoTie_UinitU) (defBody s_NoTie_UinitU) (defScope s_NoTie_UinitU) [] [] f fd) : Binds K fd ["self", "at"] [] := F.bindsN fun _ _ _ _ _ _ us hl => match us, hl with | [_, _], _ => rfl
theorem f_is_number (T : Tp K mg) : ∃ fd, FunD K "is_number" "is_number" (defArgs s_is_number) (defBody s_is_number) (defScope s_is_number) [] [] (He.ga K "is_number") fd := T.c.def_ 13 (d := d_is_number) rfl
theorem b_is_number {f : Addr} {fd : FuncData} (F : FunD K "is_number" "is_number" (defArgs s_is_number) (defBody s_is_number) (defScope s_is_number) [] [] f fd) : Binds K fd ["thing"] [] := F.bindsN fun _ _ _ _ _ _ us hl => match us, hl with | [_], _ => rfl
theorem f_is_whole (T : Tp K mg) : ∃ fd, FunD K "is_whole" "is_whole" (defArgs s_is_whole) (defBody s_is_whole) (defScope s_is_whole) [] [] (He.ga K "is_whole") fd := T.c.def_ 14 (d := d_is_whole) rfl
theorem b_is_whole {f : Addr} {fd : FuncData} (F : FunD K "is_whole" "is_whole" (defArgs s_is_whole) (defBody s_is_whole) (defScope s_is_whole) [] [] f fd) : Binds K fd ["thing", "least", "most"] [] := F.bindsN fun _ _ _ _ _ _ us hl => match us, hl with | [_, _, _], _ => rfl
theorem f_is_one_of (T : Tp K mg) : ∃ fd, FunD K "is_one_of" "is_one_of" (defArgs s_is_one_of) (defBody s_is_one_of) (defScope s_is_one_of) [] [] (He.ga K "is_one_of") fd := T.c.def_ 15 (d := d_is_one_of) rfl
theorem b_is_one_of {f : Addr} {fd : FuncData} (F : FunD K "is_one_of" "is_one_of" (defArgs s_is_one_of) (defBody s_is_one_of) (defScope s_is_one_of) [] [] f fd) : Binds K fd ["thing", "names"] [] := F.bindsN fun _ _ _ _ _ _ us hl => match us, hl with | [_, _], _ => rfl
theorem f_is_name (T : Tp K mg) : ∃ fd, FunD K "is_name" "is_name" (defArgs s_is_name) (defBody s_is_name) (defScope s_is_name) [] [] (He.ga K "is_name") fd := T.c.def_ 16 (d := d_is_name) rfl
theorem b_is_name {f : Addr} {fd : FuncData} (F : FunD K "is_name" "is_name" (defArgs s_is_name) (defBody s_is_name) (defScope s_is_name) [] [] f fd) : Binds K fd ["thing"] [] := F.bindsN fun _ _ _ _ _ _ us hl => match us, hl with | [_], _ => rfl
theorem f_is_figures (T : Tp K mg) : ∃ fd, FunD K "is_figures" "is_figures" (defArgs s_is_figures) (defBody s_is_figures) (defScope s_is_figures) [] [] (He.ga K "is_figures") fd := T.c.def_ 17 (d := d_is_figures) rfl
theorem b_is_figures {f : Addr} {fd : FuncData} (F : FunD K "is_figures" "is_figures" (defArgs s_is_figures) (defBody s_is_figures) (defScope s_is_figures) [] [] f fd) : Binds K fd ["word"] [] := F.bindsN fun _ _ _ _ _ _ us hl => match us, hl with | [_], _ => rfl
theorem f_read_number (T : Tp K mg) : ∃ fd, FunD K "read_number" "read_number" (defArgs s_read_number) (defBody s_read_number) (defScope s_read_number) [] [] (He.ga K "read_number") fd := T.c.def_ 18 (d := d_read_number) rfl
theorem b_read_number {f : Addr} {fd : FuncData} (F : FunD K "read_number" "read_number" (defArgs s_read_number) (defBody s_read_number) (defScope s_read_number) [] [] f fd) : Binds K fd ["word"] [] := F.bindsN fun _ _ _ _ _ _ us hl => match us, hl with | [_], _ => rfl
theorem f_read_bound (T : Tp K mg) : ∃ fd, FunD K "read_bound" "read_bound" (defArgs s_read_bound) (defBody s_read_bound) (defScope s_read_bound) [] [] (He.ga K "read_bound") fd := T.c.def_ 19 (d := d_read_bound) rfl
theorem b_read_bound {f : Addr} {fd : FuncData} (F : FunD K "read_bound" "read_bound" (defArgs s_read_bound) (defBody s_read_bound) (defScope s_read_bound) [] [] f fd) : Binds K fd ["word"] [] := F.bindsN fun _ _ _ _ _ _ us hl => match us, hl with | [_], _ => rfl
theorem f_read_name (T : Tp K mg) : ∃ fd, FunD K "read_name" "read_name" (defArgs s_read_name) (defBody s_read_name) (defScope s_read_name) [] [] (He.ga K "read_name") fd := T.c.def_ 20 (d := d_read_name) rfl
theorem b_read_name {f : Addr} {fd : FuncData} (F : FunD K "read_name" "read_name" (defArgs s_read_name) (defBody s_read_name) (defScope s_read_name) [] [] f fd) : Binds K fd ["word"] [] := F.bindsN fun _ _ _ _ _ _ us hl => match us, hl with | [_], _ => rfl
theorem f_written (T : Tp K mg) : ∃ fd, FunD K "written" "written" (defArgs s_written) (defBody s_written) (defScope s_written) [] [] (He.ga K "written") fd := T.c.def_ 21 (d := d_written) rfl
theorem b_written {f : Addr} {fd : FuncData} (F : FunD K "written" "written" (defArgs s_written) (defBody s_written) (defScope s_written) [] [] f fd) : Binds K fd ["thing"] [] := F.bindsN fun _ _ _ _ _ _ us hl => match us, hl with | [_], _ => rfl
theorem f_read_words (T : Tp K mg) : ∃ fd, FunD K "read_words" "read_words" (defArgs s_read_words) (defBody s_read_words) (defScope s_read_words) [] [] (He.ga K "read_words") fd := T.c.def_ 22 (d := d_read_words) rfl
theorem b_read_words {f : Addr} {fd : FuncData} (F : FunD K "read_words" "read_words" (defArgs s_read_words) (defBody s_read_words) (defScope s_read_words) [] [] f fd) : Binds K fd ["form", "words"] [] := F.bindsN fun _ _ _ _ _ _ us hl => match us, hl with | [_, _], _ => rfl
theorem f_read_word (T : Tp K mg) : ∃ fd, FunD K "read_word" "read_word" (defArgs s_read_word) (defBody s_read_word) (defScope s_read_word) [] [] (He.ga K "read_word") fd := T.c.def_ 23 (d := d_read_word) rfl
theorem b_read_word {f : Addr} {fd : FuncData} (F : FunD K "read_word" "read_word" (defArgs s_read_word) (defBody s_read_word) (defScope s_read_word) [] [] f fd) : Binds K fd ["kind", "word"] [] := F.bindsN fun _ _ _ _ _ _ us hl => match us, hl with | [_, _], _ => rfl
theorem f_with_deed (T : Tp K mg) : ∃ fd, FunD K "with_deed" "with_deed" (defArgs s_with_deed) (defBody s_with_deed) (defScope s_with_deed) [] [] (He.ga K "with_deed") fd := T.c.def_ 24 (d := d_with_deed) rfl
theorem b_with_deed {f : Addr} {fd : FuncData} (F : FunD K "with_deed" "with_deed" (defArgs s_with_deed) (defBody s_with_deed) (defScope s_with_deed) [] [] f fd) : Binds K fd ["web", "deed"] [] := F.bindsN fun _ _ _ _ _ _ us hl => match us, hl with | [_, _], _ => rfl
theorem f_write_deed (T : Tp K mg) : ∃ fd, FunD K "write_deed" "write_deed" (defArgs s_write_deed) (defBody s_write_deed) (defScope s_write_deed) [] [] (He.ga K "write_deed") fd := T.c.def_ 25 (d := d_write_deed) rfl
theorem b_write_deed {f : Addr} {fd : FuncData} (F : FunD K "write_deed" "write_deed" (defArgs s_write_deed) (defBody s_write_deed) (defScope s_write_deed) [] [] f fd) : Binds K fd ["deed"] [] := F.bindsN fun _ _ _ _ _ _ us hl => match us, hl with | [_], _ => rfl
theorem f_read_deed (T : Tp K mg) : ∃ fd, FunD K "read_deed" "read_deed" (defArgs s_read_deed) (defBody s_read_deed) (defScope s_read_deed) [] [] (He.ga K "read_deed") fd := T.c.def_ 26 (d := d_read_deed) rfl
theorem b_read_deed {f : Addr} {fd : FuncData} (F : FunD K "read_deed" "read_deed" (defArgs s_read_deed) (defBody s_read_deed) (defScope s_read_deed) [] [] f fd) : Binds K fd ["text"] [] := F.bindsN fun _ _ _ _ _ _ us hl => match us, hl with | [_], _ => rfl
theorem f_Web_UinitU (T : Tp K mg) : ∃ fd, FunD K "__init__" "Web.__init__" (defArgs s_Web_UinitU) (defBody s_Web_UinitU) (defScope s_Web_UinitU) [(V.int 100 : V)] [] (He.ma K (He.ga K "Web") "__init__") fd := T.c.def_ 27 (d := d_Web_UinitU) rfl
theorem f_Web_with_by (T : Tp K mg) : ∃ fd, FunD K "with_by" "Web.with_by" (defArgs s_Web_with_by) (defBody s_Web_with_by) (defScope s_Web_with_by) [] [] (He.ma K (He.ga K "Web") "with_by") fd := T.c.def_ 28 (d := d_Web_with_by) rfl
theorem b_Web_with_by {f : Addr} {fd : FuncData} (F : FunD K "with_by" "Web.with_by" (defArgs s_Web_with_by) (defBody s_Web_with_by) (defScope s_Web_with_by) [] [] f fd) : Binds K fd ["self", "by"] [] := F.bindsN fun _ _ _ _ _ _ us hl => match us, hl with | [_, _], _ => rfl
theorem f_Web_with_moment (T : Tp K mg) : ∃ fd, FunD K "with_moment" "Web.with_moment" (defArgs s_Web_with_moment) (defBody s_Web_with_moment) (defScope s_Web_with_moment) [] [] (He.ma K (He.ga K "Web") "with_moment") fd := T.c.def_ 29 (d := d_Web_with_moment) rfl
theorem b_Web_with_moment {f : Addr} {fd : FuncData} (F : FunD K "with_moment" "Web.with_moment" (defArgs s_Web_with_moment) (defBody s_Web_with_moment) (defScope s_Web_with_moment) [] [] f fd) : Binds K fd ["self", "name"] [] := F.bindsN fun _ _ _ _ _ _ us hl => match us, hl with | [_, _], _ => rfl
theorem f_Web_with_span (T : Tp K mg) : ∃ fd, FunD K "with_span" "Web.with_span" (defArgs s_Web_with_span) (defBody s_Web_with_span) (defScope s_Web_with_span) [] [("late", V.int 0)] (He.ma K (He.ga K "Web") "with_span") fd := T.c.def_ 30 (d := d_Web_with_span) rfl
theorem f_Web_with_tie (T : Tp K mg) : ∃ fd, FunD K "with_tie" "Web.with_tie" (defArgs s_Web_with_tie) (defBody s_Web_with_tie) (defScope s_Web_with_tie) [] [("least", V.non), ("most", V.non)] (He.ma K (He.ga K "Web") "with_tie") fd := T.c.def_ 31 (d := d_Web_with_tie) rfl
theorem f_Web_without (T : Tp K mg) : ∃ fd, FunD K "without" "Web.without" (defArgs s_Web_without) (defBody s_Web_without) (defScope s_Web_without) [] [] (He.ma K (He.ga K "Web") "without") fd := T.c.def_ 32 (d := d_Web_without) rfl
theorem b_Web_without {f : Addr} {fd : FuncData} (F : FunD K "without" "Web.without" (defArgs s_Web_without) (defBody s_Web_without) (defScope s_Web_without) [] [] f fd) : Binds K fd ["self", "name"] [] := F.bindsN fun _ _ _ _ _ _ us hl => match us, hl with | [_, _], _ => rfl
theorem f_Web_without_tie (T : Tp K mg) : ∃ fd, FunD K "without_tie" "Web.without_tie" (defArgs s_Web_without_tie) (defBody s_Web_without_tie) (defScope s_Web_without_tie) [] [] (He.ma K (He.ga K "Web") "without_tie") fd := T.c.def_ 33 (d := d_Web_without_tie) rfl
theorem b_Web_without_tie {f : Addr} {fd : FuncData} (F : FunD K "without_tie" "Web.without_tie" (defArgs s_Web_without_tie) (defBody s_Web_without_tie) (defScope s_Web_without_tie) [] [] f fd) : Binds K fd ["self", "at"] [] := F.bindsN fun _ _ _ _ _ _ us hl => match us, hl with | [_, _], _ => rfl
theorem f_Web_moments (T : Tp K mg) : ∃ fd, FunD K "moments" "Web.moments" (defArgs s_Web_moments) (defBody s_Web_moments) (defScope s_Web_moments) [] [] (He.ma K (He.ga K "Web") "moments") fd := T.c.def_ 34 (d := d_Web_moments) rfl
theorem b_Web_moments {f : Addr} {fd : FuncData} (F : FunD K "moments" "Web.moments" (defArgs s_Web_moments) (defBody s_Web_moments) (defScope s_Web_moments) [] [] f fd) : Binds K fd ["self"] [] := F.bindsN fun _ _ _ _ _ _ us hl => match us, hl with | [_], _ => rfl
theorem f_Web_spans (T : Tp K mg) : ∃ fd, FunD K "spans" "Web.spans" (defArgs s_Web_spans) (defBody s_Web_spans) (defScope s_Web_spans) [] [] (He.ma K (He.ga K "Web") "spans") fd := T.c.def_ 35 (d := d_Web_spans) rfl
theorem b_Web_spans {f : Addr} {fd : FuncData} (F : FunD K "spans" "Web.spans" (defArgs s_Web_spans) (defBody s_Web_spans) (defScope s_Web_spans) [] [] f fd) : Binds K fd ["self"] [] := F.bindsN fun _ _ _ _ _ _ us hl => match us, hl with | [_], _ => rfl
theorem f_Web_ties (T : Tp K mg) : ∃ fd, FunD K "ties" "Web.ties" (defArgs s_Web_ties) (defBody s_Web_ties) (defScope s_Web_ties) [] [] (He.ma K (He.ga K "Web") "ties") fd := T.c.def_ 36 (d := d_Web_ties) rfl
theorem b_Web_ties {f : Addr} {fd : FuncData} (F : FunD K "ties" "Web.ties" (defArgs s_Web_ties) (defBody s_Web_ties) (defScope s_Web_ties) [] [] f fd) : Binds K fd ["self"] [] := F.bindsN fun _ _ _ _ _ _ us hl => match us, hl with | [_], _ => rfl
theorem f_Web_points (T : Tp K mg) : ∃ fd, FunD K "points" "Web.points" (defArgs s_Web_points) (defBody s_Web_points) (defScope s_Web_points) [] [] (He.ma K (He.ga K "Web") "points") fd := T.c.def_ 37 (d := d_Web_points) rfl
theorem b_Web_points {f : Addr} {fd : FuncData} (F : FunD K "points" "Web.points" (defArgs s_Web_points) (defBody s_Web_points) (defScope s_Web_points) [] [] f fd) : Binds K fd ["self"] [] := F.bindsN fun _ _ _ _ _ _ us hl => match us, hl with | [_], _ => rfl
theorem f_Web_UeqU (T : Tp K mg) : ∃ fd, FunD K "__eq__" "Web.__eq__" (defArgs s_Web_UeqU) (defBody s_Web_UeqU) (defScope s_Web_UeqU) [] [] (He.ma K (He.ga K "Web") "__eq__") fd := T.c.def_ 38 (d := d_Web_UeqU) rfl
theorem b_Web_UeqU {f : Addr} {fd : FuncData} (F : FunD K "__eq__" "Web.__eq__" (defArgs s_Web_UeqU) (defBody s_Web_UeqU) (defScope s_Web_UeqU) [] [] f fd) : Binds K fd ["self", "other"] [] := F.bindsN fun _ _ _ _ _ _ us hl => match us, hl with | [_, _], _ => rfl
theorem f_Web_UlenU (T : Tp K mg) : ∃ fd, FunD K "__len__" "Web.__len__" (defArgs s_Web_UlenU) (defBody s_Web_UlenU) (defScope s_Web_UlenU) [] [] (He.ma K (He.ga K "Web") "__len__") fd := T.c.def_ 39 (d := d_Web_UlenU) rfl
theorem b_Web_UlenU {f : Addr} {fd : FuncData} (F : FunD K "__len__" "Web.__len__" (defArgs s_Web_UlenU) (defBody s_Web_UlenU) (defScope s_Web_UlenU) [] [] f fd) : Binds K fd ["self"] [] := F.bindsN fun _ _ _ _ _ _ us hl => match us, hl with | [_], _ => rfl
theorem f_Web_UreprU (T : Tp K mg) : ∃ fd, FunD K "__repr__" "Web.__repr__" (defArgs s_Web_UreprU) (defBody s_Web_UreprU) (defScope s_Web_UreprU) [] [] (He.ma K (He.ga K "Web") "__repr__") fd := T.c.def_ 40 (d := d_Web_UreprU) rfl
theorem b_Web_UreprU {f : Addr} {fd : FuncData} (F : FunD K "__repr__" "Web.__repr__" (defArgs s_Web_UreprU) (defBody s_Web_UreprU) (defScope s_Web_UreprU) [] [] f fd) : Binds K fd ["self"] [] := F.bindsN fun _ _ _ _ _ _ us hl => match us, hl with | [_], _ => rfl
theorem f_woven (T : Tp K mg) : ∃ fd, FunD K "woven" "woven" (defArgs s_woven) (defBody s_woven) (defScope s_woven) [] [] (He.ga K "woven") fd := T.c.def_ 41 (d := d_woven) rfl
theorem b_woven {f : Addr} {fd : FuncData} (F : FunD K "woven" "woven" (defArgs s_woven) (defBody s_woven) (defScope s_woven) [] [] f fd) : Binds K fd ["by", "moments", "spans", "ties"] [] := F.bindsN fun _ _ _ _ _ _ us hl => match us, hl with | [_, _, _, _], _ => rfl
theorem f_is_begin (T : Tp K mg) : ∃ fd, FunD K "is_begin" "is_begin" (defArgs s_is_begin) (defBody s_is_begin) (defScope s_is_begin) [] [] (He.ga K "is_begin") fd := T.c.def_ 42 (d := d_is_begin) rfl
theorem b_is_begin {f : Addr} {fd : FuncData} (F : FunD K "is_begin" "is_begin" (defArgs s_is_begin) (defBody s_is_begin) (defScope s_is_begin) [] [] f fd) : Binds K fd ["web", "name"] [] := F.bindsN fun _ _ _ _ _ _ us hl => match us, hl with | [_, _], _ => rfl
theorem f_are_lengths (T : Tp K mg) : ∃ fd, FunD K "are_lengths" "are_lengths" (defArgs s_are_lengths) (defBody s_are_lengths) (defScope s_are_lengths) [] [] (He.ga K "are_lengths") fd := T.c.def_ 43 (d := d_are_lengths) rfl
theorem b_are_lengths {f : Addr} {fd : FuncData} (F : FunD K "are_lengths" "are_lengths" (defArgs s_are_lengths) (defBody s_are_lengths) (defScope s_are_lengths) [] [] f fd) : Binds K fd ["low", "high"] [] := F.bindsN fun _ _ _ _ _ _ us hl => match us, hl with | [_, _], _ => rfl
theorem f_is_lateness (T : Tp K mg) : ∃ fd, FunD K "is_lateness" "is_lateness" (defArgs s_is_lateness) (defBody s_is_lateness) (defScope s_is_lateness) [] [] (He.ga K "is_lateness") fd := T.c.def_ 44 (d := d_is_lateness) rfl
theorem b_is_lateness {f : Addr} {fd : FuncData} (F : FunD K "is_lateness" "is_lateness" (defArgs s_is_lateness) (defBody s_is_lateness) (defScope s_is_lateness) [] [] f fd) : Binds K fd ["late"] [] := F.bindsN fun _ _ _ _ _ _ us hl => match us, hl with | [_], _ => rfl
theorem f_is_used (T : Tp K mg) : ∃ fd, FunD K "is_used" "is_used" (defArgs s_is_used) (defBody s_is_used) (defScope s_is_used) [] [] (He.ga K "is_used") fd := T.c.def_ 45 (d := d_is_used) rfl
theorem b_is_used {f : Addr} {fd : FuncData} (F : FunD K "is_used" "is_used" (defArgs s_is_used) (defBody s_is_used) (defScope s_is_used) [] [] f fd) : Binds K fd ["web", "name"] [] := F.bindsN fun _ _ _ _ _ _ us hl => match us, hl with | [_, _], _ => rfl
theorem f_are_bounds (T : Tp K mg) : ∃ fd, FunD K "are_bounds" "are_bounds" (defArgs s_are_bounds) (defBody s_are_bounds) (defScope s_are_bounds) [] [] (He.ga K "are_bounds") fd := T.c.def_ 46 (d := d_are_bounds) rfl
theorem b_are_bounds {f : Addr} {fd : FuncData} (F : FunD K "are_bounds" "are_bounds" (defArgs s_are_bounds) (defBody s_are_bounds) (defScope s_are_bounds) [] [] f fd) : Binds K fd ["least", "most"] [] := F.bindsN fun _ _ _ _ _ _ us hl => match us, hl with | [_, _], _ => rfl
theorem f_need_free_name (T : Tp K mg) : ∃ fd, FunD K "need_free_name" "need_free_name" (defArgs s_need_free_name) (defBody s_need_free_name) (defScope s_need_free_name) [] [] (He.ga K "need_free_name") fd := T.c.def_ 47 (d := d_need_free_name) rfl
theorem b_need_free_name {f : Addr} {fd : FuncData} (F : FunD K "need_free_name" "need_free_name" (defArgs s_need_free_name) (defBody s_need_free_name) (defScope s_need_free_name) [] [] f fd) : Binds K fd ["web", "name"] [] := F.bindsN fun _ _ _ _ _ _ us hl => match us, hl with | [_, _], _ => rfl
theorem f_need_point (T : Tp K mg) : ∃ fd, FunD K "need_point" "need_point" (defArgs s_need_point) (defBody s_need_point) (defScope s_need_point) [] [] (He.ga K "need_point") fd := T.c.def_ 48 (d := d_need_point) rfl
theorem b_need_point {f : Addr} {fd : FuncData} (F : FunD K "need_point" "need_point" (defArgs s_need_point) (defBody s_need_point) (defScope s_need_point) [] [] f fd) : Binds K fd ["web", "name"] [] := F.bindsN fun _ _ _ _ _ _ us hl => match us, hl with | [_, _], _ => rfl
theorem f_write_web (T : Tp K mg) : ∃ fd, FunD K "write_web" "write_web" (defArgs s_write_web) (defBody s_write_web) (defScope s_write_web) [] [] (He.ga K "write_web") fd := T.c.def_ 49 (d := d_write_web) rfl
theorem b_write_web {f : Addr} {fd : FuncData} (F : FunD K "write_web" "write_web" (defArgs s_write_web) (defBody s_write_web) (defScope s_write_web) [] [] f fd) : Binds K fd ["web"] [] := F.bindsN fun _ _ _ _ _ _ us hl => match us, hl with | [_], _ => rfl
theorem f_read_web (T : Tp K mg) : ∃ fd, FunD K "read_web" "read_web" (defArgs s_read_web) (defBody s_read_web) (defScope s_read_web) [] [] (He.ga K "read_web") fd := T.c.def_ 50 (d := d_read_web) rfl
theorem b_read_web {f : Addr} {fd : FuncData} (F : FunD K "read_web" "read_web" (defArgs s_read_web) (defBody s_read_web) (defScope s_read_web) [] [] f fd) : Binds K fd ["text"] [] := F.bindsN fun _ _ _ _ _ _ us hl => match us, hl with | [_], _ => rfl
theorem f_need_follower (T : Tp K mg) : ∃ fd, FunD K "need_follower" "need_follower" (defArgs s_need_follower) (defBody s_need_follower) (defScope s_need_follower) [] [] (He.ga K "need_follower") fd := T.c.def_ 51 (d := d_need_follower) rfl
theorem b_need_follower {f : Addr} {fd : FuncData} (F : FunD K "need_follower" "need_follower" (defArgs s_need_follower) (defBody s_need_follower) (defScope s_need_follower) [] [] f fd) : Binds K fd ["ahead", "word"] [] := F.bindsN fun _ _ _ _ _ _ us hl => match us, hl with | [_, _], _ => rfl
theorem f__law_flow (T : Tp K mg) : ∃ fd, FunD K "_law_flow" "_law_flow" (defArgs s__law_flow) (defBody s__law_flow) (defScope s__law_flow) [] [] (He.ga K "_law_flow") fd := T.c.def_ 52 (d := d__law_flow) rfl
theorem b__law_flow {f : Addr} {fd : FuncData} (F : FunD K "_law_flow" "_law_flow" (defArgs s__law_flow) (defBody s__law_flow) (defScope s__law_flow) [] [] f fd) : Binds K fd ["_law_script"] [] := F.bindsN fun _ _ _ _ _ _ us hl => match us, hl with | [_], _ => rfl
theorem f__law_draw (T : Tp K mg) : ∃ fd, FunD K "_law_draw" "_law_draw" (defArgs s__law_draw) (defBody s__law_draw) (defScope s__law_draw) [] [] (He.ga K "_law_draw") fd := T.c.def_ 53 (d := d__law_draw) rfl
theorem b__law_draw {f : Addr} {fd : FuncData} (F : FunD K "_law_draw" "_law_draw" (defArgs s__law_draw) (defBody s__law_draw) (defScope s__law_draw) [] [] f fd) : Binds K fd ["_law_flow_here", "_law_size"] [] := F.bindsN fun _ _ _ _ _ _ us hl => match us, hl with | [_, _], _ => rfl
theorem f__law_pick (T : Tp K mg) : ∃ fd, FunD K "_law_pick" "_law_pick" (defArgs s__law_pick) (defBody s__law_pick) (defScope s__law_pick) [] [] (He.ga K "_law_pick") fd := T.c.def_ 54 (d := d__law_pick) rfl
theorem b__law_pick {f : Addr} {fd : FuncData} (F : FunD K "_law_pick" "_law_pick" (defArgs s__law_pick) (defBody s__law_pick) (defScope s__law_pick) [] [] f fd) : Binds K fd ["_law_flow_here", "_law_row"] [] := F.bindsN fun _ _ _ _ _ _ us hl => match us, hl with | [_, _], _ => rfl
theorem f__law_same (T : Tp K mg) : ∃ fd, FunD K "_law_same" "_law_same" (defArgs s__law_same) (defBody s__law_same) (defScope s__law_same) [] [] (He.ga K "_law_same") fd := T.c.def_ 55 (d := d__law_same) rfl
theorem b__law_same {f : Addr} {fd : FuncData} (F : FunD K "_law_same" "_law_same" (defArgs s__law_same) (defBody s__law_same) (defScope s__law_same) [] [] f fd) : Binds K fd ["_law_found", "_law_due"] [] := F.bindsN fun _ _ _ _ _ _ us hl => match us, hl with | [_, _], _ => rfl
theorem f__law_names (T : Tp K mg) : ∃ fd, FunD K "_law_names" "_law_names" (defArgs s__law_names) (defBody s__law_names) (defScope s__law_names) [] [] (He.ga K "_law_names") fd := T.c.def_ 56 (d := d__law_names) rfl
theorem b__law_names {f : Addr} {fd : FuncData} (F : FunD K "_law_names" "_law_names" (defArgs s__law_names) (defBody s__law_names) (defScope s__law_names) [] [] f fd) : Binds K fd ["_law_flow_here", "_law_many"] [] := F.bindsN fun _ _ _ _ _ _ us hl => match us, hl with | [_, _], _ => rfl
theorem f__law_model (T : Tp K mg) : ∃ fd, FunD K "_law_model" "_law_model" (defArgs s__law_model) (defBody s__law_model) (defScope s__law_model) [] [] (He.ga K "_law_model") fd := T.c.def_ 57 (d := d__law_model) rfl
theorem b__law_model {f : Addr} {fd : FuncData} (F : FunD K "_law_model" "_law_model" (defArgs s__law_model) (defBody s__law_model) (defScope s__law_model) [] [] f fd) : Binds K fd ["_law_last"] [] := F.bindsN fun _ _ _ _ _ _ us hl => match us, hl with | [_], _ => rfl
theorem f__law_points (T : Tp K mg) : ∃ fd, FunD K "_law_points" "_law_points" (defArgs s__law_points) (defBody s__law_points) (defScope s__law_points) [] [] (He.ga K "_law_points") fd := T.c.def_ 58 (d := d__law_points) rfl
theorem b__law_points {f : Addr} {fd : FuncData} (F : FunD K "_law_points" "_law_points" (defArgs s__law_points) (defBody s__law_points) (defScope s__law_points) [] [] f fd) : Binds K fd ["_law_m"] [] := F.bindsN fun _ _ _ _ _ _ us hl => match us, hl with | [_], _ => rfl
theorem f__law_web (T : Tp K mg) : ∃ fd, FunD K "_law_web" "_law_web" (defArgs s__law_web) (defBody s__law_web) (defScope s__law_web) [] [] (He.ga K "_law_web") fd := T.c.def_ 59 (d := d__law_web) rfl
theorem b__law_web {f : Addr} {fd : FuncData} (F : FunD K "_law_web" "_law_web" (defArgs s__law_web) (defBody s__law_web) (defScope s__law_web) [] [] f fd) : Binds K fd ["_law_m"] [] := F.bindsN fun _ _ _ _ _ _ us hl => match us, hl with | [_], _ => rfl
theorem f__law_wind (T : Tp K mg) : ∃ fd, FunD K "_law_wind" "_law_wind" (defArgs s__law_wind) (defBody s__law_wind) (defScope s__law_wind) [] [] (He.ga K "_law_wind") fd := T.c.def_ 60 (d := d__law_wind) rfl
theorem b__law_wind {f : Addr} {fd : FuncData} (F : FunD K "_law_wind" "_law_wind" (defArgs s__law_wind) (defBody s__law_wind) (defScope s__law_wind) [] [] f fd) : Binds K fd ["_law_flow_here", "_law_end", "_law_own", "_law_far"] [] := F.bindsN fun _ _ _ _ _ _ us hl => match us, hl with | [_, _, _, _], _ => rfl
theorem f__law_bond (T : Tp K mg) : ∃ fd, FunD K "_law_bond" "_law_bond" (defArgs s__law_bond) (defBody s__law_bond) (defScope s__law_bond) [] [] (He.ga K "_law_bond") fd := T.c.def_ 61 (d := d__law_bond) rfl
theorem b__law_bond {f : Addr} {fd : FuncData} (F : FunD K "_law_bond" "_law_bond" (defArgs s__law_bond) (defBody s__law_bond) (defScope s__law_bond) [] [] f fd) : Binds K fd ["_law_flow_here", "_law_points_here", "_law_far"] [] := F.bindsN fun _ _ _ _ _ _ us hl => match us, hl with | [_, _, _], _ => rfl
theorem f__law_drawn (T : Tp K mg) : ∃ fd, FunD K "_law_drawn" "_law_drawn" (defArgs s__law_drawn) (defBody s__law_drawn) (defScope s__law_drawn) [] [] (He.ga K "_law_drawn") fd := T.c.def_ 62 (d := d__law_drawn) rfl
theorem b__law_drawn {f : Addr} {fd : FuncData} (F : FunD K "_law_drawn" "_law_drawn" (defArgs s__law_drawn) (defBody s__law_drawn) (defScope s__law_drawn) [] [] f fd) : Binds K fd ["_law_flow_here", "_law_own", "_law_winds", "_law_bonds", "_law_far", "_law_last"] [] := F.bindsN fun _ _ _ _ _ _ us hl => match us, hl with | [_, _, _, _, _, _], _ => rfl
theorem f__law_stands (T : Tp K mg) : ∃ fd, FunD K "_law_stands" "_law_stands" (defArgs s__law_stands) (defBody s__law_stands) (defScope s__law_stands) [] [] (He.ga K "_law_stands") fd := T.c.def_ 63 (d := d__law_stands) rfl
theorem b__law_stands {f : Addr} {fd : FuncData} (F : FunD K "_law_stands" "_law_stands" (defArgs s__law_stands) (defBody s__law_stands) (defScope s__law_stands) [] [] f fd) : Binds K fd ["_law_web_here", "_law_m"] [] := F.bindsN fun _ _ _ _ _ _ us hl => match us, hl with | [_, _], _ => rfl
theorem f__law_deed_line (T : Tp K mg) : ∃ fd, FunD K "_law_deed_line" "_law_deed_line" (defArgs s__law_deed_line) (defBody s__law_deed_line) (defScope s__law_deed_line) [] [] (He.ga K "_law_deed_line") fd := T.c.def_ 64 (d := d__law_deed_line) rfl
theorem b__law_deed_line {f : Addr} {fd : FuncData} (F : FunD K "_law_deed_line" "_law_deed_line" (defArgs s__law_deed_line) (defBody s__law_deed_line) (defScope s__law_deed_line) [] [] f fd) : Binds K fd ["_law_deed"] [] := F.bindsN fun _ _ _ _ _ _ us hl => match us, hl with | [_], _ => rfl
theorem f__law_web_deeds (T : Tp K mg) : ∃ fd, FunD K "_law_web_deeds" "_law_web_deeds" (defArgs s__law_web_deeds) (defBody s__law_web_deeds) (defScope s__law_web_deeds) [] [] (He.ga K "_law_web_deeds") fd := T.c.def_ 65 (d := d__law_web_deeds) rfl
theorem b__law_web_deeds {f : Addr} {fd : FuncData} (F : FunD K "_law_web_deeds" "_law_web_deeds" (defArgs s__law_web_deeds) (defBody s__law_web_deeds) (defScope s__law_web_deeds) [] [] f fd) : Binds K fd ["_law_m"] [] := F.bindsN fun _ _ _ _ _ _ us hl => match us, hl with | [_], _ => rfl
theorem f_law (T : Tp K mg) : ∃ fd, FunD K "law" "law" (defArgs s_law) (defBody s_law) (defScope s_law) [] [] (He.ga K "law") fd := T.c.def_ 66 (d := d_law) rfl
theorem b_law {f : Addr} {fd : FuncData} (F : FunD K "law" "law" (defArgs s_law) (defBody s_law) (defScope s_law) [] [] f fd) : Binds K fd ["_law_script"] [] := F.bindsN fun _ _ _ _ _ _ us hl => match us, hl with | [_], _ => rfl
end
/-! the head -/
def loose0 : List PySem.Str := ["__name__", "TideError", "BadBy", "BadName", "Taken", "Full", "BadLength", "BadLate", "BadTie", "Used", "BadText", "Missing", "NoMoment", "NoPoint", "NoTie", "LETTERS", "LONGEST_NAME", "is_number", "is_whole", "is_one_of", "is_name", "FIGURES", "MOST_FIGURES", "NONE", "is_figures", "read_number", "read_bound", "read_name", "written", "READERS"]
def loose1 : List PySem.Str := ["read_words", "read_word", "FORMS", "with_deed", "write_deed", "read_deed", "BY", "START", "MOST_BY", "MOST_MOMENTS", "MOST_SPANS", "MOST_TIES", "MOST_LENGTH", "MOST_LATE", "MOST_BOUND", "Web", "woven", "is_begin", "are_lengths", "is_lateness", "is_used", "are_bounds", "need_free_name", "need_point", "FOLLOWERS", "write_web", "read_web", "need_follower", "_law_flow", "_law_draw"]
def loose2 : List PySem.Str := ["_law_pick", "_law_same", "_law_names", "_law_model", "_law_points", "_law_web", "_law_wind", "_law_bond", "_law_drawn", "_law_stands", "_law_deed_line", "_law_web_deeds"]
def loose : List PySem.Str := loose0 ++ loose1 ++ loose2
abbrev R : PySem.W.OpenRow := PySem.W.OpenLaw.row PySem.Challenge.rw_tidewaiter_k56_webs_written_and_read
def tf : List He.Defn := [("law", none)]
def wand0 : List PySem.Str := ["is_number", "is_whole", "is_one_of", "is_name", "is_figures", "read_number", "read_bound", "read_name", "written", "read_words", "read_word", "with_deed", "write_deed", "read_deed", "woven", "is_begin", "are_lengths", "is_lateness", "is_used", "are_bounds", "need_free_name", "need_point", "write_web", "read_web", "need_follower", "_law_flow", "_law_draw", "_law_pick"]
def wand1 : List PySem.Str := ["_law_same", "_law_names", "_law_model", "_law_points", "_law_web", "_law_wind", "_law_bond", "_law_drawn", "_law_stands", "_law_deed_line", "_law_web_deeds", "law"]
def want3 : List PySem.Str := ["Web", "FORMS", "READERS", "FOLLOWERS", "TideError", "BadBy", "BadName", "Taken", "Full", "BadLength", "BadLate", "BadTie", "Used", "Missing", "NoMoment", "NoPoint", "NoTie"]
def want : Want := (want3, wand0 ++ wand1, [])
def tb : List He.Tab := [((fun K => He.ga K "FORMS"), ["by", "moment", "span", "tie", "without", "untie"]), ((fun K => He.ga K "READERS"), ["number", "bound", "name"])]
def tn : List He.Tab := [((fun K => He.ga K "FOLLOWERS"), ["by", "moment", "span", "tie"])]
abbrev hk : PySem.W.Hook := hookN 3 want fa fn tf ex tb tn
def ob (s : PySem.W.SharedT) : AlN := obsN 3 want fa fn tf ex tb tn (HandSHeadRun.getT s)
theorem ob_eq (s : PySem.W.SharedT) : ob s = hk.obs s.abs := obsN_eq (HandSHeadRun.getT_eq s)
abbrev lawAt : Nat := 78
end Tw

set_option maxHeartbeats 0
/-! the top's run in pieces: one display of it (five keys, None the first) leans on hashes and goes by TwGoT; all else is looked at -/
namespace Tw
open PySem PySem.Spec PyProof.Rows L2 PySem.W
open HandSHeadRun (stepQ denQ tabQ)
def atF : Stmt := R.prog.main.body.getD 59 (.Pass ⟨0, 0, 0, 0⟩)
def noE : Expr := .Name "" ⟨0, 0, 0, 0⟩
def keyE (i : Nat) : Expr := match atF with
  | .Assign _ (.Dict ks _ _) _ => (ks.getD i none).getD noE
  | _ => noE
def valE (i : Nat) : Expr := match atF with
  | .Assign _ (.Dict _ vs _) _ => vs.getD i noE
  | _ => noE
def posE : Pos × Pos × Pos := match atF with
  | .Assign [.Name _ xp] (.Dict _ _ dp) ps => (xp, dp, ps)
  | _ => (⟨0, 0, 0, 0⟩, ⟨0, 0, 0, 0⟩, ⟨0, 0, 0, 0⟩)
def dsp : CutD := ⟨"FOLLOWERS", posE.1, posE.2.1, posE.2.2, keyE 0, keyE 1, keyE 2, keyE 3, keyE 4, valE 0, valE 1, valE 2, valE 3, valE 4⟩
abbrev bdy : List Stmt := behindTheImports R.prog
abbrev evC : Env := { scope := R.prog.main.scope, locals := mainNs, globals := mainNs, cells := [], code := .ref 13, frame := some 14 }
abbrev cCut : Code := .body bdy evC
abbrev BC : List Frame := [topFrame ⟨0, 0, 0, 0⟩]
abbrev nmF : CutN := (("by", 1), ("moment", 5), ("span", 9), ("tie", 12))
theorem at_dsp : bdy = bdy.take 59 ++ (dsp.stmt :: bdy.drop (59 + 1)) := (List.take_append_drop 59 bdy).symm.trans (congrArg (fun z => bdy.take 59 ++ z) (show bdy.drop 59 = dsp.stmt :: bdy.drop (59 + 1) by kernel_rfl))
noncomputable def blkQ : List Stmt → Env → Sem Unit := PySem.W.Fast.tw1066825118222455980
theorem blkQ_eq : @blockStart = blkQ := PySem.W.Fast.te1066825118222455980
noncomputable abbrev ch (w : World) (os : OsState) : Option (Thread × CutO) := chainF (stepQ (denQ tabQ) R.prog w) R.prog cCut BC (blkQ bdy evC) (execsQ (bdy.take 59) evC) (execsQ (bdy.drop (59 + 1)) evC) (treesQ dsp evC) dsp.dp nmF 12 30000 w os
theorem ch_eq (w : World) (os : OsState) : chainF (stepT (denote treeTable) R.prog w) R.prog cCut BC (blockStart bdy evC) (execs (bdy.take 59) evC) (execs (bdy.drop (59 + 1)) evC) (treesO dsp evC) dsp.dp nmF 12 30000 w os = ch w os := by
  rw [HandSHeadRun.stepQ_eq, HandSHeadRun.denQ_eq, HandSHeadRun.tabQ_eq, blkQ_eq, execsQ_eq, treesQ_eq]
abbrev wB (w : World) (b : Bool) : World := w.withFollow "special-get-raises" b
noncomputable abbrev en (w : World) (os : OsState) : Option SharedT := (ch w os).map fun z => z.2.s
abbrev LT (w : World) (os : OsState) : Prop := (ch w os).map (fun z => (z.1, z.2.cs, z.2.fs.length, z.2.fs)) = (ch w os).map (fun z => (⟨denQ tabQ cCut, cCut, ⟨0, 0, 0, 0⟩, BC⟩, [cCut, cCut, cCut, cCut, cCut, cCut, cCut, cCut, cCut, cCut, cCut, cCut, cCut, cCut], 10, z.2.xs))
abbrev L1 (w : World) (os : OsState) : Prop := (en w os).map (fun s => (HandSHeadRun.looksF R.prog (boot_heap w.params) s.abs, HandSHeadRun.seenQ (view R.prog [lawAt]) loose (importedModules R.prog.main.body) (fun s => xlAt (view R.prog [lawAt]) [] s && recOk R.records s) s.abs)) = some (true, openGood (view R.prog [lawAt]) loose)
abbrev frS (s : SharedT) : Frag := frZ (HandSHeadRun.getT s) want 3
abbrev LFq (w : World) (os : OsState) : Prop := (en w os).map (fun s => ((fn.all fun d => d.ok (frS s), fn.map fun d => He.fnW (frS s) d.at_), fa.all fun f => f.ok (frS s), (ex (frS s) && He.tabsB (HandSHeadRun.getT s) tf (frS s)), (tb.map fun t => He.dicW (frS s) (t.1 (frS s))), tn.map fun t => He.dicW (frS s) (t.1 (frS s)))) = some ((true, fn.map He.DefD.val), true, true, (tb.map fun t => some (He.keysIn w.params t.2)), tn.map fun t => some (none :: He.keysIn w.params t.2))
/-- the looks together -/
structure Seen (w : World) (os : OsState) : Prop where
  t : LT w os
  l : L1 w os
  f : LFq w os
theorem cut_ok {w : World} (S : ∀ os, Seen w os) : CutOk R (view R.prog [lawAt]) hk loose (12 + (10 + (30000 + (17000 + (30000 + 2))))) w where
  run := fun os => by
    have z := S os
    obtain ⟨⟨ta, o⟩, h, l0⟩ := seen_ex (o := ch w os) z.l
    obtain ⟨ht, hc, hl, hf⟩ := seen_parts (o := ch w os) h z.t
    have f0 := seen_at (o := ch w os) h z.f
    have l1 : HandSHeadRun.looksF R.prog (boot_heap w.params) o.s.abs = true := congrArg Prod.fst l0
    have l2 : HandSHeadRun.seenQ (view R.prog [lawAt]) loose (importedModules R.prog.main.body) (fun s => xlAt (view R.prog [lawAt]) [] s && recOk R.records s) o.s.abs = openGood (view R.prog [lawAt]) loose := congrArg Prod.snd l0
    refine cut_at o.s ?_ l1 l2 ?_
    · have ht' : ta = ⟨denote treeTable cCut, cCut, ⟨0, 0, 0, 0⟩, BC⟩ := by
        rw [show denote treeTable = denQ tabQ by rw [HandSHeadRun.denQ_eq, HandSHeadRun.tabQ_eq]]
        exact ht
      exact chainF_ok (qp := ⟨0, 0, 0, 0⟩) (q0 := ⟨0, 0, 0, 0⟩) (b := bdy) (env := evC) (i := 59) at_dsp ((ch_eq w os).trans h) ht' (fun c m => by
        have hc' : o.cs = [cCut, cCut, cCut, cCut, cCut, cCut, cCut, cCut, cCut, cCut, cCut, cCut, cCut, cCut] := hc
        rw [hc'] at m
        exact List.eq_of_mem_replicate (n := 14) m) hf (Nat.le_of_eq hl)
    · refine (ob_eq o.s).symm.trans ?_
      obtain ⟨e0, f1⟩ := Prod.mk.inj f0
      obtain ⟨e1, e2⟩ := Prod.mk.inj e0
      obtain ⟨fa1, f2⟩ := Prod.mk.inj f1
      obtain ⟨fx, f3⟩ := Prod.mk.inj f2
      obtain ⟨ft, fn'⟩ := Prod.mk.inj f3
      show ((((((fa.all fun f => f.ok (frS o.s)) && fn.all fun d => d.ok (frS o.s)), fn.map fun d => He.fnW (frS o.s) d.at_), (ex (frS o.s) && He.tabsB (HandSHeadRun.getT o.s) tf (frS o.s))), tb.map fun t => He.dicW (frS o.s) (t.1 (frS o.s))), tn.map fun t => He.dicW (frS o.s) (t.1 (frS o.s))) = ((((true, fn.map He.DefD.val), true), tb.map fun t => some (He.keysIn w.params t.2)), tn.map fun t => some (none :: He.keysIn w.params t.2))
      rw [e1, e2, fa1, fx, ft, fn']
      rfl
theorem no0 (w : World) (os : OsState) : LT (wB w false) os := by kernel_rfl
theorem no1 (w : World) (os : OsState) : L1 (wB w false) os := by kernel_rfl
theorem no2 (w : World) (os : OsState) : LFq (wB w false) os := by kernel_rfl
theorem yes0 (w : World) (os : OsState) : LT (wB w true) os := by kernel_rfl
theorem yes1 (w : World) (os : OsState) : L1 (wB w true) os := by kernel_rfl
theorem yes2 (w : World) (os : OsState) : LFq (wB w true) os := by kernel_rfl
theorem run (w : World) : CutOk R (view R.prog [lawAt]) hk loose (12 + (10 + (30000 + (17000 + (30000 + 2))))) w := cut_ok (PySem.W.byRow2 "special-get-raises" (P := fun w => ∀ os, Seen w os) (fun w os => ⟨no0 w os, no1 w os, no2 w os⟩) (fun w os => ⟨yes0 w os, yes1 w os, yes2 w os⟩) w)
end Tw

set_option maxHeartbeats 4000000
/-! comprehensions whose block changes nothing -/
namespace Tw
open PySem PySem.Spec PyProof.Rows L2
section
variable {α β : Type} {J : It} {G : Hp → Prop} {Y : Nat → Hp → V → Hp → Prop} {g : TG} {tt : TT} {te : TE} {vs : List Nat} {σ : L2.St} {H0 : Hp} {D : Addr} {Qd : Hp → Prop}
/-- [elt for target in source if test]: as the source's items as data, f the item's own (none: left out), S what a told item is -/
theorem lc_pure (as : List α) (w : Walk J as.length G Y) (f : α → Option β) (S : Hp → V → β → Prop) (Sk : ∀ {H H' v b}, Kt H H' → S H v b → S H' v b) (nD : H0 D = none) (hn : as.length ≤ 1000) (hG : ∀ H, Same H0 H → G H)
    (hs : ∀ i a x H H', as[i]? = some a → Same H0 H → Y i H x H' → ∀ (Good : V → Hp → Prop) (Bad : Hp → Prop), (∀ y c H4, f a = some c → Same H H4 → S H4 y c → Good y H4) → (f a = none → ∀ H3, Same H H3 → Bad H3) →
      g x (wipe σ vs) H' fun σ2 H2 => wipe σ2 vs = wipe σ vs ∧ tt σ2 H2 fun b H3 => if b = true then te σ2 H3 Good else Bad H3)
    (hd : ∀ H acc, Same H0 H → H D = some (.lst acc) → Paired (S H) acc (as.filterMap f) → Qd H) :
    ∃ W : Nat → Nat → Hp → Prop, (∃ m, W 0 m (upd H0 D (.lst []))) ∧ ∀ i m H, W i m H →
      (J.stop i H ∧ Qd H) ∨ (J.go i H ∧ ∃ Nx : Hp → Prop, (∀ H', Nx H' → ∃ m', m' < m ∧ W (i + 1) m' H') ∧ ∀ x H', J.yld i H x H' → g x (wipe σ vs) H' fun σ2 H2 => wipe σ2 vs = wipe σ vs ∧ tt σ2 H2 fun b H3 =>
        if b = true then te σ2 H3 fun y H4 => ∃ acc, H4 D = some (.lst acc) ∧ acc.length < sizeLine ∧ Nx (upd H4 D (.lst (acc ++ [y]))) else Nx H3) := by
  refine lc_it w (fun i H => Same H0 H ∧ ∃ acc, H D = some (.lst acc) ∧ Paired (S H) acc ((as.take i).filterMap f)) ⟨same_upd nD, [], upd_same, .nil⟩ (fun _ H _ h => hG H h.1) ?_ ?_
  · rintro i x H H' hi ⟨s1, acc, d1, p1⟩ y
    obtain ⟨a, ea⟩ : ∃ a, as[i]? = some a := ⟨as[i], by simp [hi]⟩
    have e2 : (as.take (i + 1)).filterMap f = (as.take i).filterMap f ++ (f a).toList := by
      rw [List.take_add_one, ea, List.filterMap_append]
      cases h : f a <;> simp [List.filterMap, h]
    refine hs i a x H H' ea s1 y _ _ (fun z c H4 ec s4 hz => ⟨acc, s4 _ _ d1, ?_, ?_, acc ++ [z], upd_same, ?_⟩) (fun en H3 s3 => ⟨s1.trans s3, acc, s3 _ _ d1, ?_⟩)
    · have hl := Paired.length p1
      have h2 : ((as.take i).filterMap f).length ≤ as.length := Nat.le_trans (List.length_filterMap_le _ _) (by rw [List.length_take]; omega)
      exact small1000 (by omega)
    · intro b o e
      rw [upd_ne (ne_of_none e nD)]
      exact s4 _ _ (s1 b o e)
    · rw [e2, ec]
      have kk : Kt H4 (upd H4 D (.lst (acc ++ [z]))) := Kt.upd fun xs e => by
        rw [s4 _ _ d1] at e
        cases e
      exact Paired.snoc (Paired.mono (fun v b h => Sk kk (Sk (Kt.of s4) h)) p1) (Sk kk hz)
    · rw [e2, en]
      show Paired _ _ (_ ++ [])
      rw [List.append_nil]
      exact Paired.mono (fun v b h => Sk (Kt.of s3) h) p1
  · rintro H ⟨s1, acc, d1, p1⟩
    rw [List.take_of_length_le (Nat.le_refl _)] at p1
    exact hd H acc s1 d1 p1
end
theorem walk_listN {K : PySem.W.Frag} {a : Addr} {xs : List V} {n : Nat} (h : xs.length = n) : Walk (Itl K a) n (fun H => SqL K H a xs) (YAt xs) := h ▸ walk_list
theorem walk_tupN {K : PySem.W.Frag} {a : Addr} {xs : List V} {n : Nat} (h : xs.length = n) : Walk (Itt K a) n (fun H => SqT K H a xs) (YAt xs) := h ▸ walk_tup
theorem sl_tupK {X : Cx} {K : PySem.W.Frag} (h : X.K = K) : SlR X (rSlT K) := h ▸ sl_tup
theorem sl_listK {X : Cx} {K : PySem.W.Frag} (h : X.K = K) : SlR X (rSlL K) := h ▸ sl_list
theorem flat_bls (l : List Bool) : (l.map V.bl).all flatV = true := by
  rw [List.all_map]
  exact List.all_eq_true.mpr fun _ _ => rfl
/-- a told item that is plain -/
def SV {β : Type} (enc : β → V) : Hp → V → β → Prop := fun _ v b => v = enc b
theorem paired_enc {β : Type} {enc : β → V} {H : Hp} : ∀ {acc : List V} {bs : List β}, Paired (SV enc H) acc bs → acc = bs.map enc
  | _, _, .nil => rfl
  | _, _, .cons h t => by
    rw [List.map_cons, ← paired_enc t, ← show _ = _ from h]
/-- a told item that is a tuple -/
def SR {β : Type} (row : β → List V) : Hp → V → β → Prop := fun H v b => ∃ t, v = .ref t ∧ H t = some (.tup (row b))
theorem sr_k {β : Type} {row : β → List V} {H H' : Hp} {v : V} {b : β} (k : Kt H H') (h : SR row H v b) : SR row H' v b := by
  obtain ⟨t, e, ht⟩ := h
  exact ⟨t, e, k _ _ ht⟩
theorem paired_rows {β : Type} {row : β → List V} {H : Hp} : ∀ {acc : List V} {bs : List β}, Paired (SR row H) acc bs → Rows H acc (bs.map row)
  | _, _, .nil => .nil
  | _, _, .cons h t => .cons h (paired_rows t)
theorem rows_at {β : Type} {row : β → List V} {H : Hp} {xs : List V} {bs : List β} {i : Nat} {x : V} {b : β} (h : Rows H xs (bs.map row)) (e : xs[i]? = some x) (eb : bs[i]? = some b) : ∃ t, x = .ref t ∧ H t = some (.tup (row b)) := by
  obtain ⟨t, r, h1, h2, h3⟩ := h.at e
  rw [List.getElem?_map, eb] at h2
  cases h2
  exact ⟨t, h1, h3⟩
end Tw

set_option maxHeartbeats 4000000
/-! values as data: lists of tuples of plain values compared -/
namespace Tw
open PySem PySem.Spec PyProof.Rows L2
def pd : V → PyData
  | .bl b => .bool b
  | .int i => .int i
  | .str z => .str z
  | _ => .none
/-- a plain value that can be laid -/
def okV : V → Bool
  | .non => true
  | .bl _ => true
  | .int _ => true
  | .str z => PyData.canLay0 (.str z)
  | _ => false
theorem dp_ok {K : PySem.W.Frag} {H : Hp} {v : V} (h : okV v = true) : Dp K H v (pd v) := by
  cases v with
  | non => exact .non
  | bl b => exact .bl b
  | int i => exact .int i
  | str z => exact .str z
  | byt b => cases h
  | flt b => cases h
  | ref b => cases h
  | ty b => cases h
theorem can_ok {v : V} (h : okV v = true) : (pd v).canLay0 = true := by
  cases v with
  | non => rfl
  | bl b => rfl
  | int i => rfl
  | str z => exact h
  | byt b => cases h
  | flt b => cases h
  | ref b => cases h
  | ty b => cases h
theorem depth_pd (v : V) : (pd v).depth = 0 := by
  cases v <;> rfl
theorem dp_all {K : PySem.W.Frag} {H : Hp} : ∀ {r : List V}, r.all okV = true → DpAll K H r (r.map pd)
  | [], _ => .nil
  | v :: r, h => by
    rw [List.all_cons, Bool.and_eq_true] at h
    exact .cons (dp_ok h.1) (dp_all h.2)
theorem can_all : ∀ {r : List V}, r.all okV = true → PyData.canLayAll0 (r.map pd) = true
  | [], _ => rfl
  | v :: r, h => by
    rw [List.all_cons, Bool.and_eq_true] at h
    show (PyData.canLay0 (pd v) && PyData.canLayAll0 (r.map pd)) = true
    rw [can_ok h.1, can_all h.2]
    rfl
theorem depth_all : ∀ (r : List V), PyData.depthAll (r.map pd) = 0
  | [] => rfl
  | v :: r => by
    show max (PyData.depth (pd v)) (PyData.depthAll (r.map pd)) = 0
    rw [depth_pd, depth_all r]
    rfl
def pdR (r : List V) : PyData := .tuple (r.map pd)
theorem dp_rows {K : PySem.W.Frag} {H : Hp} : ∀ {xs : List V} {rs : List (List V)}, Rows H xs rs → (∀ r ∈ rs, r.all okV = true) → DpAll K H xs (rs.map pdR)
  | _, _, .nil, _ => .nil
  | _, _, .cons ⟨t, e, ht⟩ q, h => by
    subst e
    exact .cons (.tup (.inl (.inl ht)) (dp_all (h _ List.mem_cons_self))) (dp_rows q fun r hr => h r (List.mem_cons_of_mem _ hr))
theorem can_rows : ∀ {rs : List (List V)}, (∀ r ∈ rs, r.all okV = true) → PyData.canLayAll0 (rs.map pdR) = true
  | [], _ => rfl
  | r :: rs, h => by
    show (PyData.canLayAll0 (r.map pd) && PyData.canLayAll0 (rs.map pdR)) = true
    rw [can_all (h _ List.mem_cons_self), can_rows fun r hr => h r (List.mem_cons_of_mem _ hr)]
    rfl
theorem depth_rows : ∀ (rs : List (List V)), PyData.depthAll (rs.map pdR) ≤ 1
  | [] => Nat.zero_le _
  | r :: rs => by
    show max (PyData.depthAll (r.map pd) + 1) (PyData.depthAll (rs.map pdR)) ≤ 1
    rw [depth_all]
    exact Nat.max_le.mpr ⟨Nat.le_refl _, depth_rows rs⟩
theorem shaped_rows {rs : List (List V)} (h : ∀ r ∈ rs, r.all okV = true) : SeqAt.shaped (.list (rs.map pdR)) = true := by
  unfold SeqAt.shaped
  rw [Bool.and_eq_true]
  refine ⟨can_rows h, decide_eq_true ?_⟩
  show PyData.depthAll (rs.map pdR) + 1 ≤ 64
  have := depth_rows rs
  omega
/-- rows != [] -/
theorem ne_empty {K : PySem.W.Frag} {H : Hp} {a b : Addr} {xs : List V} {rs : List (List V)} {Q : VK} (ha : H a = some (.lst xs)) (hb : H b = some (.lst [])) (R : Rows H xs rs) (h : ∀ r ∈ rs, r.all okV = true) (q : Q (.bl (!rs.isEmpty)) H) : rNeD K (.ref a) (.ref b) H Q := by
  refine ⟨.list (rs.map pdR), .list [], .lst (.inl (.inl ha)) (dp_rows R h), .lst (.inl (.inl hb)) .nil, shaped_rows h, by decide, ?_⟩
  cases rs with
  | nil => exact q
  | cons r rs => exact q
end Tw

set_option maxHeartbeats 4000000
/-! own exceptions in the air: none, one or two fields beside the word -/
namespace Tw
open PySem PySem.Spec PyProof.Rows L2
section
variable {P : Program} {w : World} {K : PySem.W.Frag} {mg : Str → Option Value} {base : Heap} {k : Nat} {f C : Addr} {fd : FuncData} {ps : List Str} {sp : Sp} {x m : Str}
/-- where nothing may be raised, the raising promise is a plain one -/
theorem fn_calm (F : FnOk P w K mg base (L2.CX P w) k f fd ps sp) : FnOk P w K mg base CX0 k f fd ps (fun vs H Q _ => sp vs H Q E0) :=
  ⟨fun vs H Q E h => F.len vs H Q E0 h, fun A outer s H args us vs Q E hr e0 hb r h => codeAny_mono (F.run A outer s H args us vs Q E0 hr e0 hb r h) fun r s' hq => by
    cases r with
    | error e =>
      obtain ⟨_, _, _, _, _, _, _, _, _, _, _, _, hE⟩ := hq
      exact False.elim hE
    | ok fl =>
      cases fl with
      | ret u => exact hq
      | next => exact False.elim hq
      | brk => exact False.elim hq
      | cont => exact False.elim hq⟩
theorem MetX.calm (c : MetX P w K mg base k C m sp) : Met P w K mg base k C m (fun vs H Q _ => sp vs H Q E0) :=
  let ⟨f, fd, ps, cls, me, F, b⟩ := c.ex
  ⟨f, fd, ps, [], cls, me, fn_calm F, b, .nil⟩
theorem CalX.calm (c : CalX P w K mg base k x sp) : Cal P w K mg base k x (fun vs H Q _ => sp vs H Q E0) :=
  let ⟨f, fd, ps, F, here, kept, b⟩ := c.ex
  ⟨f, fd, ps, [], fn_calm F, here, kept, b, .nil⟩
end
def OutF (H : Hp) (E : XK) (C : Addr) (fs : List (Str × V)) : Prop := ∀ (d : Addr) (H' : Hp), Same H H' → H d = none → H' d = some (.xd fs) → E (.ref C) (some d) H'
theorem OutF.same {H H1 : Hp} {E : XK} {C : Addr} {fs : List (Str × V)} (o : OutF H E C fs) (s : Same H H1) : OutF H1 E C fs := fun d H' s' n e => o d H' (s.trans s') (s.free n) e
abbrev Out0 (H : Hp) (E : XK) (C : Addr) (w : Str) : Prop := OutF H E C [(("word" : Str), .str w)]
abbrev Out (H : Hp) (E : XK) (C : Addr) (w f : Str) (v : V) : Prop := OutF H E C [(f, v), (("word" : Str), .str w)]
abbrev Out2 (H : Hp) (E : XK) (C : Addr) (w f g : Str) (v u : V) : Prop := OutF H E C [(g, u), (f, v), (("word" : Str), .str w)]
theorem Out.same {H H1 : Hp} {E : XK} {C : Addr} {w f : Str} {v : V} (o : Out H E C w f v) (s : Same H H1) : Out H1 E C w f v := OutF.same o s
def sp_miss (b : Bs) (K : PySem.W.Frag) : Sp := fun vs H Q _ => ∃ (a C : Addr) (u y : Str), vs = [.ref a, .str u, .str y] ∧ OxC b K C ∧ PySem.W.findIn K (.ref C) "word" = some none ∧ H a = some (exo a C none) ∧ u.length ≤ 100 ∧ y.length ≤ 100 ∧
  ∀ d, H d = none → d ≠ a → Q .non (upd (upd H d (exd d [(("word" : Str), .str u)])) a (exo a C (some d)))
/-- what an own exception's making leaves -/
def Made (H : Hp) (a C : Addr) (fs : List (Str × V)) (Q : VK) : Prop := ∀ (d : Addr) (H2 : Hp), H d = none → d ≠ a → (∀ b, b ≠ a → b ≠ d → H2 b = H b) → H2 a = some (exo a C (some d)) → H2 d = some (exd d fs) → Q .non H2
def sp_exc0 (K : PySem.W.Frag) (C : Addr) (u : Str) : Sp := fun vs H Q _ => ∃ (a : Addr), vs = [.ref a] ∧ H a = some (exo a C none) ∧ Made H a C [(("word" : Str), .str u)] Q
def sp_exc1 (K : PySem.W.Frag) (C : Addr) (u f : Str) : Sp := fun vs H Q _ => ∃ (a : Addr) (v : V), vs = [.ref a, v] ∧ H a = some (exo a C none) ∧ Made H a C [(f, v), (("word" : Str), .str u)] Q
def sp_exc2 (K : PySem.W.Frag) (C : Addr) (u f g : Str) : Sp := fun vs H Q _ => ∃ (a : Addr) (v z : V), vs = [.ref a, v, z] ∧ H a = some (exo a C none) ∧ Made H a C [(g, z), (f, v), (("word" : Str), .str u)] Q
theorem made_out {C a : Addr} {fs : List (Str × V)} {H : Hp} {E : XK} (h : OutF H E C fs) (na : H a = none) : Made (upd H a (exo a C none)) a C fs
    (fun x H2 => x = .non ∧ ∃ (d : Addr) (fs : List (Str × V)), H2 a = some (exo a C (some d)) ∧ H2 d = some (exd d fs) ∧ H d = none ∧ E (.ref C) (some d) (upd (del H2 a) d (.xd fs))) := by
  intro d H2 nd da k e1 e2
  have nd2 : H d = none := by
    rw [upd_ne da] at nd
    exact nd
  refine ⟨rfl, d, _, e1, e2, nd2, h d _ (fun b o hb => ?_) nd2 upd_same⟩
  have h1 : b ≠ a := ne_of_none hb na
  have h2 : b ≠ d := ne_of_none hb nd2
  rw [upd_ne h2, del_ne h1, k b h1 h2, upd_ne h1]
  exact hb
section
variable {K : PySem.W.Frag} {C : Addr} {u f g : Str} {v z : V} {H : Hp} {E : XK}
theorem mk_out0 (h : Out0 H E C u) : ([] : List V).length ≤ 1000 ∧ ∀ a, H a = none → sp_exc0 K C u (.ref a :: ([] ++ [])) (upd H a (exo a C none))
    (fun x H2 => x = .non ∧ ∃ (d : Addr) (fs : List (Str × V)), H2 a = some (exo a C (some d)) ∧ H2 d = some (exd d fs) ∧ H d = none ∧ E (.ref C) (some d) (upd (del H2 a) d (.xd fs))) (fun _ _ _ => False) :=
  ⟨by show 0 ≤ 1000; decide, fun a na => ⟨a, rfl, upd_same, made_out h na⟩⟩
theorem mk_out (h : Out H E C u f v) : ([v] : List V).length ≤ 1000 ∧ ∀ a, H a = none → sp_exc1 K C u f (.ref a :: ([v] ++ [])) (upd H a (exo a C none))
    (fun x H2 => x = .non ∧ ∃ (d : Addr) (fs : List (Str × V)), H2 a = some (exo a C (some d)) ∧ H2 d = some (exd d fs) ∧ H d = none ∧ E (.ref C) (some d) (upd (del H2 a) d (.xd fs))) (fun _ _ _ => False) :=
  ⟨by show 1 ≤ 1000; decide, fun a na => ⟨a, v, rfl, upd_same, made_out h na⟩⟩
theorem mk_out2 (h : Out2 H E C u f g v z) : ([v, z] : List V).length ≤ 1000 ∧ ∀ a, H a = none → sp_exc2 K C u f g (.ref a :: ([v, z] ++ [])) (upd H a (exo a C none))
    (fun x H2 => x = .non ∧ ∃ (d : Addr) (fs : List (Str × V)), H2 a = some (exo a C (some d)) ∧ H2 d = some (exd d fs) ∧ H d = none ∧ E (.ref C) (some d) (upd (del H2 a) d (.xd fs))) (fun _ _ _ => False) :=
  ⟨by show 2 ≤ 1000; decide, fun a na => ⟨a, v, z, rfl, upd_same, made_out h na⟩⟩
end
end Tw

set_option maxHeartbeats 4000000
/-! a lambda without parameters that a name keeps: made and stored, handed on by its name, called by its name -/
namespace Tw
open PySem PySem.Spec PyProof.Rows L2
open LamX (ExtN Tabs TabB LamS CodeO)
/-- the object of the lambda made in X -/
abbrev lamAt (X : Cx) (ps : Arguments) (b : Expr) (sc : Scope) (c' : Addr) (pm ct : Value) : Obj := PySem.W.kla_obj "<lambda>" (X.env.qual ++ "<lambda>") ps b sc (cloFrom X.env.cells sc.names []) pm c' ct
/-- the lambda at f is known in X -/
structure KeptL (X : Cx) (ps : Arguments) (b : Expr) (sc : Scope) (f c' : Addr) : Prop where
  ex : ∃ pm ct, (f, lamAt X ps b sc c' pm ct) ∈ X.pn
section
variable {X : Cx} {pins : List (Addr × Obj)} {σ : L2.St} {H : Hp} {s : Shared} {ps : Arguments} {b : Expr} {sc : Scope} {f c' : Addr}
theorem pin_lam {pm ct : Value} (I : Inv X pins σ H s) (h1 : s.heap.get? f = some (lamAt X ps b sc c' pm ct)) (h2 : H f = none) (h3 : f ∉ frs X.stack) : Inv X ((f, lamAt X ps b sc c' pm ct) :: pins) σ H s := by
  have nl : f ≠ X.env.locals := by
    rintro rfl
    obtain ⟨m, ⟨o, es, ep, e1, e2, _⟩, _⟩ := I.loc
    rw [h1] at e1
    cases e1
    cases e2
  have nf : f ∉ X.fs := by
    intro hf
    refine h3 ?_
    rcases I.ok.stk with e | ⟨e, fr⟩
    · rw [e]
      exact hf
    · rw [e]
      show f ∈ List.filterMap (·.frame) (X.env :: X.outer)
      rw [List.filterMap_cons, fr]
      exact List.mem_cons_of_mem _ hf
  refine { I with pin := fun p hp => ?_ }
  rcases List.mem_append.mp hp with h | h
  · exact I.pin p (List.mem_append_left _ h)
  · rcases List.mem_cons.mp h with e | h
    · subst e
      exact ⟨h1, h2, nl, nf, fun v z => by cases z⟩
    · exact I.pin p (List.mem_append_right _ h)
theorem KeptL.at (k : KeptL X ps b sc f c') (I : Inv X pins σ H s) : ∃ pm ct, s.heap.get? f = some (lamAt X ps b sc c' pm ct) ∧ H f = none ∧ f ∉ frs X.stack := by
  obtain ⟨pm, ct, hm⟩ := k.ex
  obtain ⟨h1, h2, h3, h4, _⟩ := I.pin _ (List.mem_append_left _ hm)
  refine ⟨pm, ct, h1, h2, fun hf => ?_⟩
  rcases List.mem_cons.mp (I.stkSub _ hf) with e | e
  · exact h3 e
  · exact h4 e
end
section
variable {X : Cx} {ps : Arguments} {b : Expr} {sc : Scope} {T : List (Addr × Str)} {c P : Addr} {i : Nat} {x : Str} {rest : List Stmt} {u : Addr → Addr → List (Addr × Obj) → TS} {lpos pos' pos : Pos}
def tLamS (T : List (Addr × Str)) (q : Str) (i : Nat) (u : Addr → Addr → List (Addr × Obj) → TS) : TS := fun D σ H => Tabs T H ∧ ∀ (H1 : Hp) (f c' : Addr) (pn : List (Addr × Obj)), ExtN H H1 → Tabs T H1 → H1 c' = some (CodeO c' q) → u f c' pn D (σ.set i (some (.ref f))) H1
/-- x = lambda: b, and what follows -/
theorem pss_lam (hN : X.N.Nodup) (hi : X.N[i]? = some x) (hx : Loc X.env.scope x) (TB : TabB X.base X.mg c P) (hcode : X.env.code = .ref c) (hm : (P, X.env.qual ++ "<lambda>") ∈ T) (hu : ∀ p ∈ T, p.1 = P → p.2 = X.env.qual ++ "<lambda>") (L : LamS X.env.scope sc)
    (hrest : ∀ (f c' : Addr) (pn : List (Addr × Obj)), KeptL (X.tr pn X.xe) ps b sc f c' → PSs (X.tr pn X.xe) rest (u f c' pn)) (hdef : defaultsOf ps X.env = ([], []) := by rfl)
    (hs : swapsWith (.Lambda ps b sc lpos) (some (.Name x pos')) pos.line X.env = pure false := by rfl) (hf : X.fn x = true ∨ X.env.scope.names.lookup x = some .local := by first | exact .inl rfl | exact .inr rfl | assumption) :
    PSs X (.Assign [.Name x pos'] (.Lambda ps b sc lpos) pos :: rest) (tLamS T (X.env.qual ++ "<lambda>") i u) := by
  constructor
  intro pins s σ H D I h
  refine wpAny_execs_cons (wpAny_Assign_Name ?_ hs)
  refine LamX.lam_make2 I TB hcode hm hu h.1 hdef (L.has I.ok) ?_
  intro f c' pm ct H1 s1 I1 e1 t1 g1 g2 g3 g4
  have J := pin_lam I1 g1 g2 g3
  refine store_ok J hN hi hx (v := .ref f) rfl (fun s2 J2 => ?_) hf
  have K2 := J2.toTry X.xe
  have kp : KeptL (X.tr (X.pn ++ ((f, lamAt X ps b sc c' pm ct) :: pins)) X.xe) ps b sc f c' := ⟨pm, ct, List.mem_append_right _ List.mem_cons_self⟩
  have back : ∀ {pn' : List (Addr × Obj)} {σ' : L2.St} {H' : Hp} {s' : Shared}, Inv (X.tr (X.pn ++ ((f, lamAt X ps b sc c' pm ct) :: pins)) X.xe) pn' σ' H' s' → Inv X pins σ' H' s' := fun {pn' σ' H' s'} J' => by
    have Z := J'.ofTry (X := X) I.ok
    refine { Z with pin := fun p hp => Z.pin p ?_ }
    rcases List.mem_append.mp hp with h | h
    · exact List.mem_append_left _ h
    · exact List.mem_append_right _ (List.mem_cons_of_mem _ h)
  refine thn ((hrest f c' _ kp).run [] s2 _ H1 D K2 (h.2 H1 f c' _ e1 t1 g4)) fun fl s3 hq => ?_
  cases fl with
  | next =>
    obtain ⟨σ', H', J', q⟩ := hq
    exact ⟨σ', H', back J', q⟩
  | brk =>
    obtain ⟨σ', H', J', q⟩ := hq
    exact ⟨σ', H', back J', q⟩
  | cont =>
    obtain ⟨σ', H', J', q⟩ := hq
    exact ⟨σ', H', back J', q⟩
  | ret w =>
    obtain ⟨v, σ', H', J', r, q⟩ := hq
    exact ⟨v, σ', H', back J', r, q⟩
end
section
variable {X : Cx} {ps : Arguments} {b : Expr} {sc : Scope} {c P : Addr} {i : Nat} {x : Str} {rest : List Stmt} {u : Addr → Addr → List (Addr × Obj) → TS} {lpos pos' pos : Pos}
theorem pss_lam1 (hN : X.N.Nodup) (hi : X.N[i]? = some x) (hx : Loc X.env.scope x) (TB : TabB X.base X.mg c P) (hcode : X.env.code = .ref c) (L : LamS X.env.scope sc)
    (hrest : ∀ (f c' : Addr) (pn : List (Addr × Obj)), KeptL (X.tr pn X.xe) ps b sc f c' → PSs (X.tr pn X.xe) rest (u f c' pn)) (hdef : defaultsOf ps X.env = ([], []) := by rfl)
    (hs : swapsWith (.Lambda ps b sc lpos) (some (.Name x pos')) pos.line X.env = pure false := by rfl) (hf : X.fn x = true ∨ X.env.scope.names.lookup x = some .local := by first | exact .inl rfl | exact .inr rfl | assumption) :
    PSs X (.Assign [.Name x pos'] (.Lambda ps b sc lpos) pos :: rest) (tLamS [(P, X.env.qual ++ "<lambda>")] (X.env.qual ++ "<lambda>") i u) :=
  pss_lam hN hi hx TB hcode List.mem_cons_self (fun p hp _ => by rw [List.mem_singleton.mp hp]) L hrest hdef hs hf
end
section
variable {X : Cx} {ps : Arguments} {b : Expr} {sc : Scope} {f c' : Addr} {i k : Nat} {v : Str} {p p2 pos : Pos}
def tHand (q : Str) (f c' : Addr) (i : Nat) (TT : (XK → Hp → VK → Prop) → Hp → VK → Prop) (t : XK → TE) : TE := fun σ H Q => σ[i]? = some (some (.ref f)) ∧ H c' = some (CodeO c' q) ∧ TT (fun E H' Q' => t E σ H' Q') H Q
/-- g(v), v a name that keeps a lambda -/
theorem pe_hand {TT : (XK → Hp → VK → Prop) → Hp → VK → Prop} {x a : Str} {g : Addr} {ag : Arguments} {bg : List Stmt} {sg : Scope} {dV kV doc pm cdv ct oc : Value} {an od : Option Addr} {osl : Array (Option Value)} {Ng : List Str} {t : XK → TE}
    (hg : Gl X x) (hm : X.mg x = some (.ref g)) (hk : PySem.W.keepIn X.K (.ref g) = true) (lk : X.K.lookup g = some ⟨oc, od, .func (PySem.W.fnOf x x ag bg sg dV kV doc pm an cdv ct), osl⟩) (hcg : PySem.W.codeIn X.K cdv x = true)
    (hb : L2.Binds X.K (PySem.W.fnOf x x ag bg sg dV kV doc pm an cdv ct) [a] []) (Sg : FnScope Ng [a] sg) (hNg : Ng[0]? = some a) (hva : Vis sg a) (hG : LamX.GivesTo X Ng x sg g cdv bg a (X.env.qual ++ "<lambda>") TT)
    (kp : KeptL X ps b sc f c') (hN : X.N[i]? = some v) (hv : Vis X.env.scope v) (hr : Room (k + 2) X.A) (L : LamS X.env.scope sc)
    (hbind : ∀ (q : Str) (cl : List (Str × Addr)) (pm cv ctv : Value), bindArgs (PySem.W.kla_fn "<lambda>" q ps b sc cl pm cv ctv) ⟨[], []⟩ = pure [])
    (hbody : ∀ (A : Around) (outer : List Env) (s : Shared) (H : Hp) (E : XK), Room k (A.deeper (LamX.lamEnv X sc s.heap.objs.size f c')) → PE (LamX.lamCx X A outer s H E sc f c') b (t E))
    (hdb : (x == ("__debug__" : Str)) = false := by decide) (hd : (a == ("__debug__" : Str)) = false := by decide) (hcd : (a == ("__classdict__" : Str)) = false := by decide)
    (hd2 : (v == ("__debug__" : Str)) = false := by decide) (hcd2 : (v == ("__classdict__" : Str)) = false := by decide) :
    PE X (.Call (.Name x p) [.Name v p2] [] pos) (tHand (X.env.qual ++ "<lambda>") f c' i TT t) := by
  constructor
  intro pins s σ H Q I ⟨w1, w2, w3⟩
  have ev := (pe_var (pos := p2) hN hv hd2 hcd2).run pins s σ H (fun z H1 => z = .ref f ∧ H1 = H) I ⟨.ref f, w1, rfl, rfl⟩
  refine wpAny_Call_Name_kw (ld_glob I hg hm (PySem.W.callWith_K (h₀ := X.base) I.ok.mod.kin hk ?_ (by rfl) (by rfl)) hdb)
  show wpAny _ _ (spliced ((false, eval (.Name v p2) X.env) :: backTo pos (starEach [] X.env))) _ _ s
  refine Calls.spliced_cons (thn ev ?_)
  rintro val s1 ⟨z, H1, I1, rz, ez, eH⟩
  subst ez eH
  obtain rfl : val = Value.ref f := rz
  refine Calls.spliced_nil ⟨I1.kIn, ?_⟩
  obtain ⟨pm1, ct1, g1, g2, g3⟩ := kp.at I1
  refine wpAny_call (codeAny_mono (LamX.run_ofS (CX := C8.CX0) (Q := Q) (E := C8.E0) (N := Ng) (us := [.ref f]) (vs := [.ref f]) lk hcg Sg hr I1.env0 (hb s1 [.ref f] I1.kIn rfl) (.cons rfl .nil) rfl ?_) ?_)
  · intro hr'
    have act := hG f c' s1 H1 Q (fun E H' Q' => t E σ H' Q') (fun W pn xe E p1 p2 tk hW => LamX.pe_act (i := 0) I1 L g1 g2 g3 (hbind _ _ _ _ _) tk hW hr' (fun A outer s H hr2 => hbody A outer s H E hr2) hNg hva hd hcd) w2 w3
    obtain ⟨t', ht, hq⟩ := act
    exact ⟨t', ht.nox, hq⟩
  · intro r s2 hq
    match r, hq with
    | .error _, hq => exact (show False from hq).elim
    | .ok (.ret _), hq => exact I1.after hq
    | .ok .next, hq => exact False.elim hq
    | .ok .brk, hq => exact False.elim hq
    | .ok .cont, hq => exact False.elim hq
def tAct (q : Str) (f c' : Addr) (i : Nat) (t : TE) : TE := fun σ H Q => σ[i]? = some (some (.ref f)) ∧ H c' = some (CodeO c' q) ∧ t σ H Q
/-- v(), v a name that keeps a lambda; nothing is raised -/
theorem pe_act0 {t : TE} (kp : KeptL X ps b sc f c') (hN : X.N[i]? = some v) (hv : Vis X.env.scope v) (hr : Room (k + 1) X.A) (L : LamS X.env.scope sc)
    (hbind : ∀ (q : Str) (cl : List (Str × Addr)) (pm cv ctv : Value), bindArgs (PySem.W.kla_fn "<lambda>" q ps b sc cl pm cv ctv) ⟨[], []⟩ = pure [])
    (hbody : ∀ (A : Around) (outer : List Env) (s : Shared) (H : Hp), Room k (A.deeper (LamX.lamEnv X sc s.heap.objs.size f c')) → PE (LamX.lamCx X A outer s H E0 sc f c') b t)
    (hd2 : (v == ("__debug__" : Str)) = false := by decide) (hcd2 : (v == ("__classdict__" : Str)) = false := by decide) : PE X (.Call (.Name v p) [] [] pos) (tAct (X.env.qual ++ "<lambda>") f c' i t) := by
  constructor
  intro pins s σ H Q I ⟨w1, w2, w3⟩
  have ev := (pe_var (pos := p) hN hv hd2 hcd2).run pins s σ H (fun z H1 => z = .ref f ∧ H1 = H) I ⟨.ref f, w1, rfl, rfl⟩
  refine wpAny_Call_Name_kw (thn ev ?_)
  rintro val s1 ⟨z, H1, I1, rz, ez, eH⟩
  subst ez eH
  obtain rfl : val = Value.ref f := rz
  obtain ⟨pm1, ct1, g1, g2, g3⟩ := kp.at I1
  obtain ⟨⟨oc, vs, tk, k1, k2, k3⟩, _, _⟩ := I1.hok c' _ w2
  refine PySem.W.callWith_F0 ⟨_, _, _, _, g1⟩ (wpAny_call (codeAny_mono (R := CR (L2.CX X.prog X.w) X.stack X.prog X.w H1 s1 Q E0) ?_ ?_))
  · refine PySem.W.kla_callFunE hr.depth g1 rfl L.co L.gen rfl ⟨c', oc, vs, tk, rfl, k1, k2, k3⟩ ?_
    rw [show ([] : List Value) ++ [] = [] from rfl, hbind]
    refine wpAny_pure (wpAny_newFunctionEnv (fun y hy => (L.own y hy).2) (fun y hy => absurd hy (by simp)) (fun h1 n1 n2 => ⟨I1.nolimit.fresh _ n2, ?_⟩) L.kind)
    have kk : ∀ a o, s1.heap.get? a = some o → h1.get? a = some o := fun a o e => n2.extBut a o (Nat.ne_of_lt (Heap.lt_size e)) (Heap.get?_push_of_some _ e)
    have J := LamX.lam_start2 (E := E0) (f := f) (c' := c') (tk := s1.toks + ([] : List (Str × Value)).length) I1 L I1.env0 hr.hd Un.refl n1 kk
    refine PySem.W.kla_codeExpr (wpAny_mono ((hbody _ _ s1 H1 (hr.deeper _)).run [] _ _ H1 Q J w3) ?_ fun e s' hq => hq)
    rintro r s' ⟨z, H', J', rz, q⟩
    exact ⟨z, H', J'.os, J'.bare, J'.base, J'.hok, rz, q⟩
  · intro r s2 hq
    match r, hq with
    | .error _, hq =>
      obtain ⟨_, _, _, _, _, _, _, _, _, _, _, _, hE⟩ := hq
      exact False.elim hE
    | .ok (.ret _), hq => exact I1.after hq
    | .ok .next, hq => exact False.elim hq
    | .ok .brk, hq => exact False.elim hq
    | .ok .cont, hq => exact False.elim hq
end
end Tw

set_option maxHeartbeats 4000000
/-! methods called with keywords, in any order, some left out; what is raised told or not -/
namespace Tw
open PySem PySem.Spec PyProof.Rows L2
theorem MetG.calm {P : Program} {w : World} {K : PySem.W.Frag} {mg : Str → Option Value} {base : Heap} {k : Nat} {C : Addr} {m : Str} {sp : Sp} {n : Nat} {ks : List Str} {gV : List V → List V → List V} (c : MetG P w K mg base (L2.CX P w) k C m sp n ks gV) : MetG P w K mg base CX0 k C m (fun vs H Q _ => sp vs H Q E0) n ks gV :=
  let ⟨f, fd, ps, g, cls, me, F, kb⟩ := c.ex
  ⟨f, fd, ps, g, cls, me, fn_calm F, kb⟩
theorem vals_rev : ∀ {zs : List V} {ws : List Value}, Vals zs ws → Vals zs.reverse ws.reverse
  | _, _, .nil => .nil
  | _, _, .cons h t => by
    rw [List.reverse_cons, List.reverse_cons]
    exact (vals_rev t).append (.cons h .nil)
/-- o.m(e, .., k = v, ..) where what the method raises is told -/
theorem pe_mgx {X : Cx} {k j n : Nat} {C : Addr} {m : Str} {sp : Sp} {pos apos : Pos} {e o : Expr} {es : List Expr} {ta : TE} {t tk : TA} {ks : List Str} {kws : List Keyword} {gV : List V → List V → List V} {E : XK} {pl : Sem Bool} {W : WX}
    (c : MetG X.prog X.w X.K X.mg X.base (L2.CX X.prog X.w) k C m sp n ks gV) (taken : Takes X W) (hW : ∀ cls d σ H, E cls d H → W cls d σ H) (hr : Room j X.A) (hk : k ≤ j) (he : PE X o ta) (ha : PA X (e :: es) t) (hkw : PK X kws tk) (form : KwForm X pl o e es kws m apos pos ks := by exact ⟨rfl, rfl, rfl, rfl, rfl⟩) :
    PE X (.Call (.Attribute o m apos) (e :: es) kws pos) (tMethG C m n ks.length sp gV E ta t tk) := pe_mg c (passes_call taken hW) hr hk he ha hkw form
end Tw

set_option maxHeartbeats 4000000
namespace Tw
open PySem PySem.Spec PyProof.Rows L2
/-! tuples joined and cut: what stands at the told place -/
def rCatU : R2 := fun x y H Q => ∃ a b xs ys, x = .ref a ∧ y = .ref b ∧ H a = some (.tup xs) ∧ H b = some (.tup ys) ∧ xs.length + ys.length ≤ sizeLine ∧ ∀ p H', Same H H' → H' p = some (.tup (xs ++ ys)) → Q (.ref p) H'
theorem op_catU {X : Cx} : OpR X (binaryOp .Add) rCatU := by
  intro pins s σ H x y v u Q I rx ry h
  obtain ⟨a, b, xs, ys, rfl, rfl, ha, hb, hl, q⟩ := h
  refine op_catA pins s σ H _ _ v u Q I rx ry ⟨a, b, xs, ys, rfl, rfl, .inl (.inl ha), .inl (.inl hb), hl, fun e => ?_, fun _ e => ?_, fun _ _ p np => q p _ (same_upd np) upd_same⟩
  · exact q b H (Same.refl H) (by rw [hb, e]; rfl)
  · exact q a H (Same.refl H) (by rw [ha, e, List.append_nil])
def rSlU : V → Option Int → Option Int → Hp → VK → Prop := fun x lo hi H Q => ∃ a xs, x = .ref a ∧ H a = some (.tup xs) ∧ ∀ p H', Same H H' → H' p = some (.tup (cutV xs lo hi)) → Q (.ref p) H'
theorem sl_tupU {X : Cx} : SlR X rSlU := by
  intro pins s σ H x v vl vu lo hi sl Q I rx hs pl pu h
  obtain ⟨a, xs, rfl, ha, q⟩ := h
  refine sl_tupA pins s σ H _ v vl vu lo hi sl Q I rx hs pl pu ⟨a, xs, rfl, .inl (.inl ha), fun e => ?_, fun _ p np => q p _ (same_upd np) upd_same⟩
  refine q a H (Same.refl H) ?_
  rw [ha]
  unfold cutV
  rw [e.1, e.2, List.drop_zero, Nat.sub_zero, List.take_length]
end Tw

set_option maxHeartbeats 4000000
/-! == and != of own instances by an own __eq__ -/
namespace Tw
open PySem PySem.Spec PyProof.Rows L2
section
variable {X : Cx} {k j : Nat} {C : Addr} {sp : Sp}
/-- a == b by an own __eq__ -/
def rEqO (K : PySem.W.Frag) (C : Addr) (sp : Sp) : R2 := fun x y H Q => ∃ a dx fs t, x = .ref a ∧ H a = some (.ins C dx fs) ∧ TyX K H y t ∧ PySem.W.notFirst K C t = true ∧ sp [x, y] H (fun v H' => ∃ b : Bool, v = .bl b ∧ Q (.bl b) H') E0
theorem op_eqO (c : Met X.prog X.w X.K X.mg X.base k C "__eq__" sp) (hr : Room j X.A) (hk : k ≤ j) : OpR X (compareOp .Eq) (rEqO X.K C sp) := by
  rintro pins s σ H x y v u Q I rx ry ⟨a, dx, fs, t, rfl, here, ty, nf, q⟩
  cases (show _ = Value.ref a from rx)
  obtain ⟨Pt, kit, pt, _⟩ := kit_of I ry ty
  obtain ⟨f, hs, hf, F⟩ := own0 c
  obtain ⟨_, J0, _⟩ := ins_get I.hok here
  obtain ⟨_, J, _⟩ := J0.look
  obtain ⟨_, hF⟩ := I.fr
  have room : Room k X.A := hr.mono hk
  have ra : RelV (.ref a) (Value.ref a) := rfl
  refine PySem.W.cmp_ofEq (PySem.W.cmp_K room.units0 hF I.ok.mod.kin J (kit.ty _ _ I.kIn pt) nf hs hf (thn (wpAny_call (SlX.run_at F room I.env0 pass0 I (.cons ra (.cons ry .nil)) q)) ?_))
  rintro _ s1 ⟨_, H1, I1, rv, b, rfl, q1⟩
  cases (show _ = Value.bool b from rv)
  exact ⟨.bl b, H1, I1, rfl, q1⟩
end
section
variable {prog : Program} {w : World} {A : Around} {E : Value → Shared → Prop} {s : Shared} {K : PySem.W.Frag} {x C f : Addr} {ox : Obj} {od : Option Obj} {b tb : Value} {Q : Value → Shared → Prop}
/-- the comparison's slot that every object has: it asks an own __eq__ and turns the word around -/
theorem slot_ne (hK : K.In s.heap) (J : PySem.W.InstAt s.heap x ox C od) (hu1 : A.in1.units < cLine) (hs : PySem.W.findIn K (.ref C) "__eq__" = some (some (.ref f))) (hf : PySem.W.isFn K (.ref f) = true) (io : PySem.W.subIn K (.ref C) (.type "object") = some true)
    (h : wpAny (model prog w) A.in1 (call (.ref f) [.ref x, b]) (fun v s' => ∃ k, v = .bool k ∧ Q (.bool (!k)) s') E s) : wpAny (model prog w) A (call (.builtin "object.__ne__") [.ref x, b]) Q E s := by
  refine wpAny_call (codeAny_call_builtin (by decide +kernel) PySem.F.cmpEntry_ne ?_)
  refine PySem.W.check_slot PySem.F.cmpKind_ne PySem.F.cmpSplit_ne (fun A' Q' E' s' keep q' => ?_) (PySem.F.cmpArgs_ne _ _) ?_
  · unfold isInstance
    refine wpAny_bind (wpAny_typeOf_ref (keep _ _ J.at_) ?_)
    rw [J.cls]
    exact PySem.W.looks_subIn hK io _ _ _ _ keep q'
  · unfold Builtin.«object.__ne__»
    have e : slotArgs "__ne__" 1 { pos := [Value.ref x, b] } = pure (.ref x, [b]) := rfl
    rw [e]
    refine wpAny_bind (wpAny_pure ?_)
    refine wpAny_bind (wpAny_cRoomFor hu1 ?_)
    refine wpAny_bind (PySem.W.ifBound_K hK J hs hf (wpAny_mono h ?_ (fun _ _ z => z)))
    rintro _ s' ⟨k, rfl, q⟩
    refine wpAny_bind (wpAny_truthy_bool ?_)
    refine wpAny_pure ?_
    exact q
/-- a != b where C tells == alone -/
theorem ne_own (hK : K.In s.heap) (J : PySem.W.InstAt s.heap x ox C od) (hu : A.units < cLine) (hu1 : A.in1.units < cLine) (ty : PySem.W.Looks (model prog w) s.heap (typeOf b) tb) (nf : PySem.W.notFirst K C tb = true) (hn : PySem.W.findIn K (.ref C) "__ne__" = some (some (.builtin "object.__ne__")))
    (hs : PySem.W.findIn K (.ref C) "__eq__" = some (some (.ref f))) (hf : PySem.W.isFn K (.ref f) = true) (io : PySem.W.subIn K (.ref C) (.type "object") = some true)
    (h : wpAny (model prog w) A.in1 (call (.ref f) [.ref x, b]) (fun v s' => ∃ k, v = .bool k ∧ Q (.bool (!k)) s') E s) : wpAny (model prog w) A (compareOp .NotEq (.ref x) b) Q E s := by
  have slot : wpAny (model prog w) A (tryCompare (.ref x) "__ne__" b) (fun r s' => ∃ k : Bool, r = some (.bool k) ∧ Q (.bool k) s') E s := by
    unfold tryCompare callSpecialIfBound? bindSpecialIfBound? specialOf
    have bind : ∀ self, bindSpecial (.builtin "object.__ne__") self = pure (.builtin "object.__ne__", [self]) := PySem.F.cmp_object.ne.bind
    refine wpAny_bind (wpAny_holding (wpAny_bind (wpAny_bind (wpAny_bind (wpAny_typeOf_ref J.at_ ?_)))))
    rw [J.cls]
    refine PySem.W.looks_findIn hK hn _ _ _ _ (fun _ _ z => z) ?_
    dsimp only
    rw [bind]
    have fin : wpAny (model prog w) A (call (.builtin "object.__ne__") [.ref x, b]) (fun v s' => ∃ k : Bool, v = .bool k ∧ Q (.bool k) s') E s := slot_ne hK J hu1 hs hf io (wpAny_mono h (fun v s' ⟨k, e, q⟩ => ⟨k, e, _, rfl, q⟩) (fun _ _ z => z))
    refine wpAny_bind (wpAny_askSetting ?_)
    have last : wpAny (model prog w) A (call (.builtin "object.__ne__") ([.ref x] ++ [b]) >>= fun v => pure (some v)) (fun a s' => wpAny (model prog w) A (match a with
      | some .notImplemented => pure none
      | none => pure none
      | some v => pure (some v)) (fun r s' => ∃ k : Bool, r = some (.bool k) ∧ Q (.bool k) s') E s') E s :=
      wpAny_bind (wpAny_mono fin (fun v s' ⟨k, e, q⟩ => by
        subst e
        exact wpAny_pure (wpAny_pure ⟨k, rfl, q⟩)) (fun _ _ z => z))
    split
    · exact wpAny_bind (wpAny_pure (wpAny_pure last))
    · exact wpAny_tryCatch (wpAny_bind (wpAny_pure (wpAny_pure last)))
  refine PySem.W.cmp_ofNotEq ?_
  unfold richCompare
  refine wpAny_holding (wpAny_bind (wpAny_cRoomFor hu ?_))
  have e1 : oneThing? .NotEq (.ref x) b = none := rfl
  rw [e1]
  dsimp only [cmpInfo]
  refine wpAny_bind (wpAny_typeOf_ref J.at_ ?_)
  rw [J.cls]
  refine wpAny_bind (ty _ _ _ _ (fun _ _ z => z) ?_)
  have or_ : tb = .ref C ∨ PySem.W.subIn K tb (.ref C) = some false := by
    rcases Bool.or_eq_true _ _ ▸ nf with e | e
    · exact .inl (eq_of_beq e)
    · exact .inr (eq_of_beq e)
  split
  · rename_i ne
    refine wpAny_bind ?_
    refine PySem.W.looks_subIn hK (or_.resolve_left fun e => ?_) _ _ _ _ (fun _ _ z => z) ?_
    · subst e
      simp at ne
    · rw [if_neg Bool.false_ne_true]
      refine wpAny_bind (wpAny_mono slot ?_ (fun _ _ z => z))
      rintro _ s' ⟨k, rfl, q⟩
      exact wpAny_pure q
  · refine wpAny_bind (wpAny_pure ?_)
    rw [if_neg Bool.false_ne_true]
    refine wpAny_bind (wpAny_mono slot ?_ (fun _ _ z => z))
    rintro _ s' ⟨k, rfl, q⟩
    exact wpAny_pure q
end
section
variable {X : Cx} {k j : Nat} {C : Addr} {sp : Sp}
/-- a != b by an own __eq__ -/
def rNeO (K : PySem.W.Frag) (C : Addr) (sp : Sp) : R2 := fun x y H Q => ∃ a dx fs t, x = .ref a ∧ H a = some (.ins C dx fs) ∧ TyX K H y t ∧ PySem.W.notFirst K C t = true ∧ sp [x, y] H (fun v H' => ∃ b : Bool, v = .bl b ∧ Q (.bl (!b)) H') E0
theorem op_neO (c : Met X.prog X.w X.K X.mg X.base k C "__eq__" sp) (hn : PySem.W.findIn X.K (.ref C) "__ne__" = some (some (.builtin "object.__ne__"))) (io : PySem.W.subIn X.K (.ref C) (.type "object") = some true) (hr : Room j X.A) (hk : k + 1 ≤ j) : OpR X (compareOp .NotEq) (rNeO X.K C sp) := by
  rintro pins s σ H x y v u Q I rx ry ⟨a, dx, fs, t, rfl, here, ty, nf, q⟩
  cases (show _ = Value.ref a from rx)
  obtain ⟨Pt, kit, pt, _⟩ := kit_of I ry ty
  obtain ⟨f, hs, hf, F⟩ := own0 c
  obtain ⟨_, J0, _⟩ := ins_get I.hok here
  obtain ⟨_, J, _⟩ := J0.look
  have room : Room k X.A.in1 := (hr.mono hk).in1
  have ra : RelV (.ref a) (Value.ref a) := rfl
  refine ne_own I.kIn J hr.units0 room.units0 (kit.ty _ _ I.kIn pt) nf hn hs hf io (thn (wpAny_call (SlX.run_at F room I.env0.in1 pass0 I (.cons ra (.cons ry .nil)) q)) ?_)
  rintro _ s1 ⟨_, H1, I1, rv, b, rfl, q1⟩
  exact ⟨b, rv, .bl (!b), H1, I1, rfl, q1⟩
end
end Tw

set_option maxHeartbeats 4000000
/-! isinstance(e, C) of a caught exception of just the class C -/
namespace Tw
open PySem PySem.Spec PyProof.Rows L2
section
variable {prog : Program} {w : World} {A : Around} {E : Value → Shared → Prop} {s : Shared}
def JustC (x C : Addr) (s : Shared) : Prop := ∃ o, s.heap.get? x = some o ∧ o.cls = .ref C
theorem nested_just (x C : Addr) : Meets (Builtin.«isinstance.nested» ⟨[.ref x, .ref C, rawInt 0], []⟩) (fun _ R s => JustC x C s ∧ R (.ok (.ret (.bool true))) s) := by
  rintro prog w A R s ⟨⟨o, h, e⟩, q⟩
  unfold Builtin.«isinstance.nested»
  refine wpAny_bind (wpAny_typeOf_ref h ?_)
  rw [e, if_pos (by exact beq_self_eq_true _)]
  exact wpAny_bind (wpAny_rule (wpAny_pure q))
theorem isi_just {x C : Addr} {Q : Value → Shared → Prop} (h : JustC x C s) (q : Q (.bool true) s) : wpAny (model prog w) A (call (.builtin "isinstance") [.ref x, .ref C]) Q E s :=
  call_isinstance (S := fun _ R s => JustC x C s ∧ R (.ok (.ret (.bool true))) s) (fun prog w A R s hs => isinstance_outer (nested_just x C prog w A R s hs) (fun e => nomatch e)) ⟨h, q⟩
end
theorem call_isJ {X : Cx} {a C : Addr} {oe : Obj} {cls : Value} {d : Option Addr} {pn : List (Addr × Obj)} (hz : Zc cls d oe) : CallR (X.suite a ((a, oe) :: pn)) (.builtin "isinstance") (fun xs H Q => xs = [.ref a, .ref C] ∧ cls = .ref C ∧ Q (.bl true) H) := by
  rintro pins s σ H xs us Q I r ⟨rfl, e, q⟩
  obtain ⟨u1, u2, rfl, r1, r2⟩ := vals2 r
  cases r1
  cases r2
  have caught : s.heap.get? a = some oe := (I.pin (a, oe) (by simp)).1
  exact isi_just ⟨oe, caught, hz.1.trans e⟩ ⟨.bl true, H, I, rfl, q⟩
end Tw

set_option maxHeartbeats 4000000
/-! x, *y = t, t a tuple -/
namespace Tw
open PySem PySem.Spec PyProof.Rows L2
section
variable {prog : Program} {w : World} {A : Around} {E : Value → Shared → Prop} {s : Shared}
/-- the first thing, and a new list of the others; all that stood stands -/
theorem head_rest {t : Addr} {x : Value} {rest : List Value} {Q : List Value → Shared → Prop} (ht : IsTup s.heap t (x :: rest).toArray) (hh : A.handled = none) (few : rest.length ≤ 1000)
    (h : ∀ D h' tk, (∀ b o, s.heap.get? b = some o → h'.get? b = some o) → s.heap.get? D = none → h'.get? D = some { cls := .type "list", data := .seq rest.toArray } → Q [x, .ref D] { s with heap := h', toks := tk }) : wpAny (model prog w) A (unpackItems (.ref t) 2 (some 1)) Q E s := by
  have old : ∀ b o, s.heap.get? b = some o → b ≠ s.heap.objs.size := fun b o e => Nat.ne_of_lt (Heap.lt_size e)
  have nt : t ≠ s.heap.objs.size := let ⟨o, e, _⟩ := ht; old t o e
  have none_ : s.heap.get? s.heap.objs.size = none := by
    cases e : s.heap.get? s.heap.objs.size with
    | none => rfl
    | some o => exact absurd rfl (old _ _ e)
  unfold unpackItems notIterableAtAll
  refine wpAny_bind (wpAny_bind (wpAny_specialOf ht.typeIs slot_tuple_iter.lookup (wpAny_pure ?_)))
  refine wpAny_bind (wpAny_holding (iter_tuple ht ?_))
  have ht0 := ht.push { cls := .type "tuple_iterator", data := .fields #[.ref t, .int 0 0] }
  refine wpAny_bind (wpAny_holding (draw_tuple nt 1 0 _ _ ⟨_, Heap.get?_push_size _ rfl, rfl, rfl⟩ ht0 (by show 1 ≤ (x :: rest).toArray.size; simp) fun h1 it1 but1 => ?_))
  have ht1 : IsTup h1 t (x :: rest).toArray := ht0.extBut but1.extBut nt
  obtain ⟨oi, hoi, _⟩ := id it1
  obtain ⟨ot, hot, _⟩ := id ht1
  refine wpAny_bind (wpAny_holding (PySem.W.kun_collect (k := 1) (s := { s with heap := h1 }) (T := "tuple_iterator") (.inr (.inr (.inr rfl))) (Walks.tuple (A := A.in1) hh s.heap.objs.size t nt (x :: rest).toArray) (fun j u st => st.1.typeIs) (by simp) ⟨it1, ht1⟩ (Heap.lt_size hoi) (Heap.lt_size hot) (fun h2 tk keep => ?_) (by rw [sizeLine_eq]; simp; omega)))
  have e1 : List.drop 1 (x :: rest).toArray.toList = rest := rfl
  have stay : ∀ b o, s.heap.get? b = some o → h2.get? b = some o := fun b o e => keep b o (old b o e) (but1.2 b (old b o e) ▸ Heap.get?_push_of_some _ e)
  rw [e1]
  show wpAny (model prog w) A (if rest.length < 0 then _ else newList (List.take (rest.length - 0) rest) >>= fun d => pure ([x] ++ [d] ++ List.drop (rest.length - 0) rest)) Q E _
  rw [if_neg (Nat.not_lt_zero _), Nat.sub_zero, List.take_length, List.drop_length]
  refine wpAny_bind (wpAny_newList (wpAny_pure (h _ _ tk (fun b o e => Heap.get?_push_of_some _ (stay b o e)) ?_ (Heap.get?_push_size _ rfl))) (by rw [sizeLine_eq]; omega))
  cases e : s.heap.get? h2.objs.size with
  | none => rfl
  | some o => exact absurd rfl (Nat.ne_of_lt (Heap.lt_size (stay _ o e)))
end
/-- what is told stands -/
theorem told_stands {P : Program} {w : World} {H : Hp} {h : Heap} {a : Addr} {o : HO} (x : ObjOk P w H h a o) : ∃ u, h.get? a = some u := by
  cases o <;> first
    | exact ⟨_, x⟩
    | exact x
    | exact ⟨_, x.1⟩
    | exact x.2.1
    | (obtain ⟨_, _, _, e, _⟩ := x; exact ⟨_, e⟩)
    | (obtain ⟨_, _, _, _, e⟩ := x; exact ⟨_, e⟩)
    | (obtain ⟨_, _, _, e⟩ := x; exact ⟨_, e⟩)
    | (obtain ⟨_, _, _, o, e, _⟩ := x; exact ⟨o, e⟩)
    | (obtain ⟨_, _, _, _, o, _, _, e, _⟩ := x; exact ⟨o, e⟩)
    | (obtain ⟨o, _, _, _, e, _⟩ := x; exact ⟨o, e⟩)
    | (obtain ⟨_, ⟨_, _, _, e, _⟩, _⟩ := x; exact ⟨_, e⟩)
section
variable {X : Cx}
/-- x, *y = a tuple with one thing or more -/
def gHead (K : PySem.W.Frag) (t : TGs) : TG := fun v σ H Q => ∃ a x rest, v = .ref a ∧ SqT K H a (x :: rest) ∧ rest.length ≤ 1000 ∧ ∀ D, H D = none → t [x, .ref D] σ (upd H D (.lst rest)) Q
theorem pg_head {es : List Expr} {k : Nat} {pos : Pos} {t : TGs} (hc : X.calm = true) (h : PGs X es t) (hn : (assignEach es X.env).length = 2 := by rfl) (hst : (assignEach es X.env).findIdx? (·.1) = some 1 := by rfl) : PG X (.Tuple es k pos) (gHead X.K t) := by
  constructor
  rintro pins s σ H v u Q I r ⟨a, x, rest, rfl, hq, few, hw⟩
  cases r
  obtain ⟨its, rv, ht, hz⟩ := I.tuple hq
  cases rv with
  | @cons _ u0 _ us rx rr =>
    have lr := rr.length
    rw [assign_Tuple]
    refine wpAny_bind (wpAny_standAt ?_)
    unfold unpack
    rw [hn, hst]
    refine wpAny_bind (wpAny_holding (head_rest ht (I.ok.hd hc) (by omega) fun D h' tk stay nD eD => ?_))
    have nDH : H D = none := by
      cases e : H D with
      | none => rfl
      | some o =>
        obtain ⟨u, eu⟩ := told_stands (I.hok D o e)
        rw [nD] at eu
        cases eu
    have I1 := I.laidN (t' := tk) stay nD nDH (show ObjOk X.prog X.w (upd H D (.lst rest)) h' D (.lst rest) from ⟨by rw [sizeLine_eq]; omega, us, 0, rr, eD⟩)
    exact h.run pins _ σ _ _ _ Q I1 (.cons rx (.cons (show RelV (.ref D) (Value.ref D) from rfl) .nil)) (hw D nDH)
theorem pgs_star {e : Expr} {p : Pos} {t : TG} (h1 : PG X e t) (hs : (assignEach [.Starred e p] X.env).map (·.2) = [assign e X.env] := by rfl) : PGs X [.Starred e p] (gCons t gNil) := by
  constructor
  rintro pins s σ H vs us Q I r ⟨v, rest, rfl, h⟩
  cases r with
  | cons rv rr =>
    rw [hs]
    refine assignInOrder_cons (thn (h1.run pins s σ H _ _ _ I rv h) ?_)
    rintro _ s1 ⟨σ1, H1, I1, rfl, q⟩
    cases rr
    exact assignInOrder_nil ⟨σ1, H1, I1, q⟩
/-- o.m( *e), what is raised told -/
def tMethL (K : PySem.W.Frag) (C : Addr) (m : Str) (g : Addr) (sp : Sp) (E : XK) (ta te : TE) : TE := fun σ H Q => ta σ H fun x H1 => ∃ a dx fs, x = .ref a ∧ H1 a = some (.ins C dx fs) ∧ fs.lookup m = none ∧
  ∀ q, H1 q = none → te σ (upd H1 q (.met g a)) fun y H2 => ∃ b vs, y = .ref b ∧ (SqT K H2 b vs ∨ SqL K H2 b vs) ∧ H2 q = some (.met g a) ∧ sp (.ref a :: vs) H2 Q E
theorem pe_mxs {k j : Nat} {C g : Addr} {m : Str} {sp : Sp} {p apos pos : Pos} {e o : Expr} {ta te : TE} {W : WX} {E : XK} (c : MetX X.prog X.w X.K X.mg X.base k C m sp) (b : BMeth X.K C m g) (tk : Takes X W) (hW : ∀ cls d σ H, E cls d H → W cls d σ H) (hr : Room j X.A) (hk : k ≤ j) (he : PE X o ta) (ha : PE X e te)
    (hbase : attributeBase o m X.env (eval o X.env) = eval o X.env := by rfl) : PE X (.Call (.Attribute o m apos) [.Starred e p] [] pos) (tMethL X.K C m g sp E ta te) := by
  obtain ⟨f, fd, ps, cls, me, F, bd⟩ := c.ex
  obtain rfl : f = g := Value.ref.inj (Option.some.inj (Option.some.inj (me.at_.symm.trans b.mt.at_)))
  have F' : FnR X.prog X.w X.K X.mg X.base (L2.CX X.prog X.w) k f sp := (F.raw bd .nil).imp fun vs _ _ _ h => (List.append_nil vs).symm ▸ h
  constructor
  intro pins s σ H Q I h
  refine starcall_of hbase (thn (he.run pins s σ H _ I h) ?_)
  rintro _ s1 ⟨_, H1, I1, obj, a, dx, fs, rfl, here, own, q⟩
  cases (show _ = Value.ref a from obj)
  refine getbound_ok I1 here cls b own fun q1 s2 hq1 I2 => PySem.W.ks_call (P := PySem.W.MethP X.K q1 f (.ref a)) rfl (PySem.W.keeps_M b.fi) (PySem.W.ks_lone (thn (ha.run pins s2 σ _ _ I2 (q q1 hq1)) ?_))
  rintro _ s3 ⟨_, H2, I3, ry, t, vs, rfl, ht, hm, hsp⟩
  cases (show _ = Value.ref t from ry)
  refine StX.star_any I3 ht fun us s4 I4 rv => ⟨met_P I4 hm, wpAny_call (PySem.W.method_call (met_P I4 hm).1 (run_fnR (us := Value.ref a :: us) (vs := V.ref a :: vs) F' (hr.mono hk) (passes_call tk hW) I4 (.cons (show RelV (.ref a) (Value.ref a) from rfl) rv) hsp))⟩
end
end Tw

set_option maxHeartbeats 4000000
/-! x, *y = l, l a list -/
namespace Tw
open PySem PySem.Spec PyProof.Rows L2
section
variable {prog : Program} {w : World} {A : Around} {E : Value → Shared → Prop} {s : Shared}
/-- of a list: the first thing, and a new list of the others -/
theorem head_restL {t : Addr} {x : Value} {rest : List Value} {Q : List Value → Shared → Prop} (ht : s.heap.IsList t (x :: rest).toArray) (hh : A.handled = none) (few : rest.length ≤ 1000)
    (h : ∀ D h' tk, (∀ b o, s.heap.get? b = some o → h'.get? b = some o) → s.heap.get? D = none → h'.get? D = some { cls := .type "list", data := .seq rest.toArray } → Q [x, .ref D] { s with heap := h', toks := tk }) : wpAny (model prog w) A (unpackItems (.ref t) 2 (some 1)) Q E s := by
  have old : ∀ b o, s.heap.get? b = some o → b ≠ s.heap.objs.size := fun b o e => Nat.ne_of_lt (Heap.lt_size e)
  have nt : t ≠ s.heap.objs.size := let ⟨o, e, _⟩ := ht; old t o e
  have none_ : s.heap.get? s.heap.objs.size = none := by
    cases e : s.heap.get? s.heap.objs.size with
    | none => rfl
    | some o => exact absurd rfl (old _ _ e)
  unfold unpackItems notIterableAtAll
  refine wpAny_bind (wpAny_bind (wpAny_specialOf ht.typeIs PySem.F.slot_list_iter.lookup (wpAny_pure ?_)))
  refine wpAny_bind (wpAny_holding (wpAny_pyIter_list ht ?_))
  have ht0 := ht.push { cls := .type "list_iterator", data := .fields #[.ref t, .int 0 0] }
  refine wpAny_bind (wpAny_holding (PySem.W.kun_draw nt 1 0 _ _ ⟨_, Heap.get?_push_size _ rfl, rfl, rfl⟩ ht0 (by show 1 ≤ (x :: rest).toArray.size; simp) fun h1 it1 but1 => ?_))
  have ht1 : h1.IsList t (x :: rest).toArray := ht0.extBut but1.extBut nt
  obtain ⟨oi, hoi, _⟩ := id it1
  obtain ⟨ot, hot, _⟩ := id ht1
  refine wpAny_bind (wpAny_holding (PySem.W.kun_collect (k := 1) (s := { s with heap := h1 }) (T := "list_iterator") (.inr (.inr (.inl rfl))) (Walks.list (A := A.in1) hh s.heap.objs.size t nt (x :: rest).toArray) (fun j u st => st.1.typeIs) (by simp) ⟨it1, ht1⟩ (Heap.lt_size hoi) (Heap.lt_size hot) (fun h2 tk keep => ?_) (by rw [sizeLine_eq]; simp; omega)))
  have e1 : List.drop 1 (x :: rest).toArray.toList = rest := rfl
  have stay : ∀ b o, s.heap.get? b = some o → h2.get? b = some o := fun b o e => keep b o (old b o e) (but1.2 b (old b o e) ▸ Heap.get?_push_of_some _ e)
  rw [e1]
  show wpAny (model prog w) A (if rest.length < 0 then _ else newList (List.take (rest.length - 0) rest) >>= fun d => pure ([x] ++ [d] ++ List.drop (rest.length - 0) rest)) Q E _
  rw [if_neg (Nat.not_lt_zero _), Nat.sub_zero, List.take_length, List.drop_length]
  refine wpAny_bind (wpAny_newList (wpAny_pure (h _ _ tk (fun b o e => Heap.get?_push_of_some _ (stay b o e)) ?_ (Heap.get?_push_size _ rfl))) (by rw [sizeLine_eq]; omega))
  cases e : s.heap.get? h2.objs.size with
  | none => rfl
  | some o => exact absurd rfl (Nat.ne_of_lt (Heap.lt_size (stay _ o e)))
end
/-- ( .., *y) within a comprehension -/
theorem pa_starK {X : Cx} {K : PySem.W.Frag} {e : Expr} {p : Pos} {es : List Expr} {te : TE} {t : TA} (h : X.K = K) (he : PE X e te) (hr : PA X es t) (hs : starEach (.Starred e p :: es) X.env = (true, eval e X.env) :: starEach es X.env := by rfl) : PA X (.Starred e p :: es) (StX.tStar K te t) := h ▸ StX.pa_star he hr hs
section
variable {X : Cx}
/-- x, *y = a list with one thing or more -/
def gHeadL (K : PySem.W.Frag) (t : TGs) : TG := fun v σ H Q => ∃ a x rest, v = .ref a ∧ SqL K H a (x :: rest) ∧ rest.length ≤ 1000 ∧ ∀ D, H D = none → t [x, .ref D] σ (upd H D (.lst rest)) Q
theorem pg_headL {es : List Expr} {k : Nat} {pos : Pos} {t : TGs} (hc : X.calm = true) (h : PGs X es t) (hn : (assignEach es X.env).length = 2 := by rfl) (hst : (assignEach es X.env).findIdx? (·.1) = some 1 := by rfl) : PG X (.Tuple es k pos) (gHeadL X.K t) := by
  constructor
  rintro pins s σ H v u Q I r ⟨a, x, rest, rfl, hq, few, hw⟩
  cases r
  obtain ⟨its, rv, ht, hz⟩ := I.list hq
  cases rv with
  | @cons _ u0 _ us rx rr =>
    have lr := rr.length
    rw [assign_Tuple]
    refine wpAny_bind (wpAny_standAt ?_)
    unfold unpack
    rw [hn, hst]
    refine wpAny_bind (wpAny_holding (head_restL ht.isList (I.ok.hd hc) (by omega) fun D h' tk stay nD eD => ?_))
    have nDH : H D = none := by
      cases e : H D with
      | none => rfl
      | some o =>
        obtain ⟨u, eu⟩ := told_stands (I.hok D o e)
        rw [nD] at eu
        cases eu
    have I1 := I.laidN (t' := tk) stay nD nDH (show ObjOk X.prog X.w (upd H D (.lst rest)) h' D (.lst rest) from ⟨by rw [sizeLine_eq]; omega, us, 0, rr, eD⟩)
    exact h.run pins _ σ _ _ _ Q I1 (.cons rx (.cons (show RelV (.ref D) (Value.ref D) from rfl) .nil)) (hw D nDH)
end
end Tw

set_option maxHeartbeats 4000000
/-! xs == [] -/
namespace Tw
open PySem PySem.Spec PyProof.Rows L2
def rEqNil (K : PySem.W.Frag) : R2 := fun x y H Q => ∃ a b xs, x = .ref a ∧ y = .ref b ∧ SqL K H a xs ∧ SqL K H b [] ∧ Q (.bl xs.isEmpty) H
theorem op_eqNil {X : Cx} (hu : X.A.units + 1 < cLine) : OpR X (compareOp .Eq) (rEqNil X.K) := by
  intro pins s σ H x y v u Q I rx ry h
  obtain ⟨a, b, xs, rfl, rfl, ha, hb, q⟩ := h
  cases rx
  cases ry
  obtain ⟨its, r1, l1, _⟩ := I.list ha
  obtain ⟨its2, r2, l2, _⟩ := I.list hb
  cases r2
  have le := r1.length
  match xs, its, r1, le, l1, q with
  | [], [], _, _, l1, q =>
    exact SeqAt.eq_listAt (e := fun _ => true) l1.isList l2.isList rfl (by omega) (fun j h1 _ => absurd h1 (Nat.not_lt_zero _)) ⟨.bl true, H, I, rfl, q⟩
  | _ :: _, _ :: _, _, _, l1, q =>
    refine SeqAt.eq_list_lengthsAt l1.isList l2.isList ?_ (by omega) ⟨.bl false, H, I, rfl, q⟩
    simp
  | [], _ :: _, _, le, _, _ => cases le
  | _ :: _, [], _, le, _, _ => cases le
end Tw

set_option maxHeartbeats 4000000
namespace Tw
open PySem PySem.Spec PyProof.Rows L2
theorem flat_strs (l : List Str) : (l.map V.str).all flatV = true := by
  rw [List.all_map]
  exact List.all_eq_true.mpr fun _ _ => rfl
theorem in_strs (z : Str) (l : List Str) : inV (.str z) (l.map V.str) = decide (z ∈ l) := by
  unfold inV
  rw [List.any_map]
  induction l with
  | nil => rfl
  | cons a r ih =>
    rw [List.any_cons, ih]
    have e : ((fun y => eqV y (.str z)) ∘ V.str) a = decide (z = a) := by
      show (a == z) = decide (z = a)
      by_cases h : z = a
      · subst h
        simp
      · rw [decide_eq_false h]
        exact beq_eq_false_iff_ne.mpr fun q => h q.symm
    rw [e]
    simp only [List.mem_cons]
    by_cases h : z = a <;> simp [h]
section
variable {P : Program} {w : World} {K : PySem.W.Frag} {mg : Str → Option Value} {base : Heap}
/-! ### is_number, is_whole, is_one_of -/
/-- None, a truth, an int or a text: its kind -/
def plK : V → Option String
  | .non => some "NoneType"
  | .bl _ => some "bool"
  | .int _ => some "int"
  | .str _ => some "str"
  | _ => none
theorem plK_ty {H : Hp} {v : V} {a : String} (h : plK v = some a) : TyX K H v (.type a) ∧ a ∈ kinds := by
  cases v with
  | non => cases h; exact ⟨.base .non, by decide⟩
  | bl b => cases h; exact ⟨.base (.bl _), by decide⟩
  | int i => cases h; exact ⟨.base (.int _), by decide⟩
  | str z => cases h; exact ⟨.base (.str _), by decide⟩
  | byt b => cases h
  | flt b => cases h
  | ref b => cases h
  | ty b => cases h
def numB (a : String) : Bool := kitT a "int" && !kitT a "bool"
def sp_is_number : Sp := fun vs H Q _ => ∃ (v : V) (a : String), vs = [v] ∧ plK v = some a ∧ Q (.bl (numB a)) H
theorem cal_is_number (T : Tp K mg) : Cal P w K mg base 1 "is_number" sp_is_number := by
  obtain ⟨fd, F⟩ := f_is_number T
  refine cal_of F (g_is_number T) (b_is_number F) sc_is_number (fun vs H Q E h => ?_) (fun cdv A outer s H vs Q E hr h => ?_)
  · obtain ⟨v, a, rfl, _⟩ := h
    rfl
  · obtain ⟨v, a, rfl, hk, q⟩ := h
    obtain ⟨ty, ha⟩ := plK_ty (K := K) (H := H) hk
    refine ⟨_, (pss_one (ps_ret (pe_and (pe_callB call_isK (by rfl) (z_isinstance T) bb_isinstance (pa_cons (pv 0) (pa_cons (pe_bltn (v := .ty "int") (by rfl) (z_int T) bb_int rfl) pa_nil))) (pe_one (pe_not (pe_callB call_isK (by rfl) (z_isinstance T) bb_isinstance (pa_cons (pv 0) (pa_cons (pe_bltn (v := .ty "bool") (by rfl) (z_bool T) bb_bool rfl) pa_nil)))))))), ?_⟩
    refine ⟨_, rfl, _, "int", a, rfl, ty, ha, by decide, _, rfl, ?_⟩
    unfold numB at q
    cases e : kitT a "int" with
    | true =>
      rw [e] at q
      exact iteT ⟨_, rfl, _, "bool", a, rfl, ty, ha, by decide, _, rfl, q⟩
    | false =>
      rw [e] at q
      exact iteF q
def sp_is_whole : Sp := fun vs H Q _ => ∃ (i lo hi : Int), vs = [.int i, .int lo, .int hi] ∧ Q (.bl (decide (lo ≤ i ∧ i ≤ hi))) H
theorem cal_is_whole (T : Tp K mg) : Cal P w K mg base 2 "is_whole" sp_is_whole := by
  obtain ⟨fd, F⟩ := f_is_whole T
  refine cal_of F (g_is_whole T) (b_is_whole F) sc_is_whole (fun vs H Q E h => ?_) (fun cdv A outer s H vs Q E hr h => ?_)
  · obtain ⟨i, lo, hi, rfl, _⟩ := h
    rfl
  · obtain ⟨i, lo, hi, rfl, q⟩ := h
    refine ⟨_, (pss_one (ps_ret (pe_and (C8.pe_c (cal_is_number T) hr (by decide) rfl (pa_cons (pv 0) pa_nil)) (pe_one (pe_chain op_le op_le (pv 1) (pv 0) (pv 2)))))), ?_⟩
    refine ⟨_, rfl, .int i, "int", rfl, rfl, _, rfl, ?_⟩
    refine iteT ⟨_, rfl, _, rfl, _, _, rfl, rfl, _, rfl, ite2 (fun e => ?_) (fun e => ?_)⟩
    · have e1 : lo ≤ i := of_decide_eq_true e
      refine ⟨_, rfl, _, _, rfl, rfl, ?_⟩
      have e2 : decide (lo ≤ i ∧ i ≤ hi) = decide (i ≤ hi) := by simp [e1]
      rw [e2] at q
      exact q
    · have e1 : ¬ lo ≤ i := fun z => e (decide_eq_true z)
      have e2 : decide (lo ≤ i ∧ i ≤ hi) = false := by simp [e1]
      rw [e2] at q
      exact q
/-- is_whole of any plain value -/
def whB (lo hi : Int) : V → Bool
  | .int i => decide (lo ≤ i ∧ i ≤ hi)
  | _ => false
def sp_iswh : Sp := fun vs H Q _ => ∃ (v : V) (lo hi : Int), vs = [v, .int lo, .int hi] ∧ (plK v).isSome = true ∧ Q (.bl (whB lo hi v)) H
theorem cal_iswh (T : Tp K mg) : Cal P w K mg base 2 "is_whole" sp_iswh := by
  obtain ⟨fd, F⟩ := f_is_whole T
  refine cal_of F (g_is_whole T) (b_is_whole F) sc_is_whole (fun vs H Q E h => ?_) (fun cdv A outer s H vs Q E hr h => ?_)
  · obtain ⟨v, lo, hi, rfl, _⟩ := h
    rfl
  · obtain ⟨v, lo, hi, rfl, hk, q⟩ := h
    refine ⟨_, (pss_one (ps_ret (pe_and (C8.pe_c (cal_is_number T) hr (by decide) rfl (pa_cons (pv 0) pa_nil)) (pe_one (pe_chain op_le op_le (pv 1) (pv 0) (pv 2)))))), ?_⟩
    cases v with
    | non => exact ⟨_, rfl, .non, "NoneType", rfl, rfl, _, rfl, iteF q⟩
    | bl b => exact ⟨_, rfl, .bl b, "bool", rfl, rfl, _, rfl, iteF q⟩
    | str z => exact ⟨_, rfl, .str z, "str", rfl, rfl, _, rfl, iteF q⟩
    | byt b => cases hk
    | flt b => cases hk
    | ref b => cases hk
    | ty b => cases hk
    | int i =>
      refine ⟨_, rfl, .int i, "int", rfl, rfl, _, rfl, ?_⟩
      refine iteT ⟨_, rfl, _, rfl, _, _, rfl, rfl, _, rfl, ite2 (fun e => ?_) (fun e => ?_)⟩
      · have e1 : lo ≤ i := of_decide_eq_true e
        refine ⟨_, rfl, _, _, rfl, rfl, ?_⟩
        have e2 : decide (lo ≤ i ∧ i ≤ hi) = decide (i ≤ hi) := by simp [e1]
        have q : Q (.bl (decide (lo ≤ i ∧ i ≤ hi))) H := q
        rw [e2] at q
        exact q
      · have e1 : ¬ lo ≤ i := fun z => e (decide_eq_true z)
        have e2 : decide (lo ≤ i ∧ i ≤ hi) = false := by simp [e1]
        have q : Q (.bl (decide (lo ≤ i ∧ i ≤ hi))) H := q
        rw [e2] at q
        exact q
def sp_is_one_of : Sp := fun vs H Q _ => ∃ (z : Str) (p : Addr) (l : List Str), vs = [.str z, .ref p] ∧ H p = some (.lst (l.map V.str)) ∧ Q (.bl (decide (z ∈ l))) H
theorem cal_is_one_of (T : Tp K mg) : Cal P w K mg base 1 "is_one_of" sp_is_one_of := by
  obtain ⟨fd, F⟩ := f_is_one_of T
  refine cal_of F (g_is_one_of T) (b_is_one_of F) sc_is_one_of (fun vs H Q E h => ?_) (fun cdv A outer s H vs Q E hr h => ?_)
  · obtain ⟨z, p, l, rfl, _⟩ := h
    rfl
  · obtain ⟨z, p, l, rfl, hp, q⟩ := h
    refine ⟨_, (pss_one (ps_ret (pe_and (pe_callB call_isK (by rfl) (z_isinstance T) bb_isinstance (pa_cons (pv 0) (pa_cons (pe_bltn (v := .ty "str") (by rfl) (z_str T) bb_str rfl) pa_nil))) (pe_one (pe_cmpR op_in_seq (pv 0) (pv 1) (by rfl)))))), ?_⟩
    refine ⟨_, rfl, _, "str", "str", rfl, .base (.str _), by decide, by decide, _, rfl, iteT ⟨_, rfl, _, rfl, p, _, rfl, .inl (.inl (.inl hp)), rfl, flat_strs _, ?_⟩⟩
    show Q (.bl (inV (.str z) (l.map V.str))) _
    rw [in_strs]
    exact q
/-! ### is_name -/
def sp_is_name : Sp := fun vs H Q _ => ∃ z : Str, vs = [.str z] ∧ Nm z ∧ ∀ H', Same H H' → Q (.bl true) H'
theorem cal_is_name (T : Tp K mg) : Cal P w K mg base 2 "is_name" sp_is_name := by
  obtain ⟨fd, F⟩ := f_is_name T
  refine cal_of F (g_is_name T) (b_is_name F) sc_is_name (fun vs H Q E h => ?_) (fun cdv A outer s H vs Q E hr h => ?_)
  · obtain ⟨z, rfl, _⟩ := h
    rfl
  · obtain ⟨z, rfl, ⟨n1, n2, n3⟩, q⟩ := h
    refine ⟨_, (pss_cons (ps_if (PW.pt (pw_or (pt_not (pt_val (pe_callB call_isK (by rfl) (z_isinstance T) bb_isinstance (pa_cons (pv 0) (pa_cons (pe_bltn (v := .ty "str") (by rfl) (z_str T) bb_str rfl) pa_nil))))) (pw_or1 (pt_not (pt_chain op_le op_le pe_int (pe_callB call_len_str (by rfl) (z_len T) bb_len (pa_cons (pv 0) pa_nil)) (C8.pe_gc (by rfl) (c_LONGEST_NAME T))))))) (pss_one (ps_ret pe_bl)) pss_nil)
      (pss_one (ps_ret (pe_callB (cr_all rfl) (by rfl) (z_all T) bb_all (pa_cons (pe_lc (own := [("letter", 1)]) (g := gName 1) (tt := tYes) rfl sc_is_name.nd (pi_str (pv 0)) (blkOk_by (N := N_is_name) (sc := defScope s_is_name) (by decide +kernel)) (fun _ _ _ _ _ => (pg_name (i := 1) sc_is_name.nd rfl (.inl rfl))) (fun _ _ _ _ _ => pts_nil) (fun _ _ _ _ _ => (pe_cmpR op_in_sign (pv 1) (C8.pe_gc (by rfl) (c_LETTERS T)) (by rfl)))) pa_nil))))), ?_⟩
    refine ⟨_, rfl, _, "str", "str", rfl, .base (.str _), by decide, by decide, _, rfl, ?_⟩
    refine iteF ⟨_, rfl, _, rfl, Nat.le_trans n2 (by decide), _, _, rfl, rfl, _, rfl, ?_⟩
    have e1 : decide ((1 : Int) ≤ (z.length : Int)) = true := decide_eq_true (by omega)
    rw [e1]
    refine iteT ⟨_, _, rfl, rfl, _, rfl, ?_⟩
    have e2 : decide ((z.length : Int) ≤ 8) = true := decide_eq_true (by omega)
    rw [e2]
    refine iteF ?_
    refine ⟨_, rfl, _, rfl, fun D nD => ?_⟩
    refine lc_it walk_str (fun i H1 => Same H H1 ∧ H1 D = some (.lst ((List.replicate i true).map V.bl))) ⟨same_upd nD, upd_same⟩ (fun _ _ _ _ => trivial) ?_ ?_
    · rintro i x H1 H2 hi ⟨s1, d1⟩ ⟨rfl, c, hc, rfl⟩
      refine ⟨rfl, yes_i (iteT ⟨_, rfl, c, letters, rfl, rfl, ?_⟩)⟩
      have hcm : c ∈ z.cps.toList := by
        obtain ⟨hi', hc'⟩ := Array.getElem?_eq_some_iff.mp hc
        rw [← hc']
        exact Array.mem_toList_iff.mpr (Array.getElem_mem hi')
      refine ⟨_, d1, ?_, ?_, ?_⟩
      · rw [List.length_map, List.length_replicate]
        have : z.cps.size = z.length := rfl
        exact small1000 (by omega)
      · exact fun b o e => by
          rw [upd_ne (ne_of_none e nD)]
          exact s1 b o e
      · rw [upd_same, decide_eq_true (n3 c hcm), List.replicate_succ', List.map_append]
        rfl
    · rintro H1 ⟨s1, d1⟩
      refine ⟨D, List.replicate z.cps.size true, rfl, .inl (.inl d1), ?_⟩
      rw [show (List.replicate z.cps.size true).all id = true by simp]
      exact q H1 s1
end
end Tw

set_option maxHeartbeats 4000000
namespace Tw
open PySem PySem.Spec PyProof.Rows L2
/-! ### attributes stored -/
theorem ne_mb : ¬ (("by" : Str) = "moment_rows") := by decide +kernel
theorem ne_sb : ¬ (("by" : Str) = "span_rows") := by decide +kernel
theorem ne_tb : ¬ (("by" : Str) = "tie_rows") := by decide +kernel
theorem ne_sm : ¬ (("moment_rows" : Str) = "span_rows") := by decide +kernel
theorem ne_tm : ¬ (("moment_rows" : Str) = "tie_rows") := by decide +kernel
theorem ne_ts : ¬ (("span_rows" : Str) = "tie_rows") := by decide +kernel
theorem pf0 {v : V} : putF "by" v ([] : List (Str × V)) = ([("by", v)] : List (Str × V)) := rfl
theorem pf1 {v x : V} : putF "moment_rows" v ([("by", x)] : List (Str × V)) = ([("by", x), ("moment_rows", v)] : List (Str × V)) := by
  simp only [putF, if_neg ne_mb]
theorem pf2 {v x y : V} : putF "span_rows" v ([("by", x), ("moment_rows", y)] : List (Str × V)) = ([("by", x), ("moment_rows", y), ("span_rows", v)] : List (Str × V)) := by
  simp only [putF, if_neg ne_sb, if_neg ne_sm]
theorem pf3 {v x y z : V} : putF "tie_rows" v ([("by", x), ("moment_rows", y), ("span_rows", z)] : List (Str × V)) = ([("by", x), ("moment_rows", y), ("span_rows", z), ("tie_rows", v)] : List (Str × V)) := by
  simp only [putF, if_neg ne_tb, if_neg ne_tm, if_neg ne_ts]
theorem wf_pm {l : Int} {a b c d : Addr} : putF "moment_rows" (.ref d) (wf l a b c) = wf l d b c := by
  unfold wf
  simp only [putF, if_neg ne_mb, if_true]
theorem wf_ps {l : Int} {a b c d : Addr} : putF "span_rows" (.ref d) (wf l a b c) = wf l a d c := by
  unfold wf
  simp only [putF, if_neg ne_sb, if_neg ne_sm, if_true]
theorem wf_pt {l : Int} {a b c d : Addr} : putF "tie_rows" (.ref d) (wf l a b c) = wf l a b d := by
  unfold wf
  simp only [putF, if_neg ne_tb, if_neg ne_tm, if_neg ne_ts, if_true]
theorem up_eq {H : Hp} {p : Addr} {o u : HO} (h : o = u) : (upd H p o) p = some u := by
  rw [upd_same, h]
section
variable {P : Program} {w : World} {K : PySem.W.Frag} {mg : Str → Option Value} {base : Heap}
abbrev CW (K : PySem.W.Frag) : Addr := He.ga K "Web"
/-! ### Web.__init__ -/
def sp_init (K : PySem.W.Frag) : Sp := fun vs H Q _ => ∃ (p dx : Addr) (l : Int), vs = [.ref p, .int l] ∧ H p = some (.ins (CW K) dx []) ∧ 1 ≤ l ∧ l ≤ 1000 ∧
  ∀ (a b c : Addr) (H' : Hp), (∀ x o, H x = some o → x ≠ p → H' x = some o) → H' p = some (.ins (CW K) dx (wf l a b c)) → H' a = some (.tup []) → H' b = some (.tup []) → H' c = some (.tup []) → Q .non H'
theorem fn_init (T : Tp K mg) {fd : FuncData} (F : FunD K "__init__" "Web.__init__" (defArgs s_Web_UinitU) (defBody s_Web_UinitU) (defScope s_Web_UinitU) [(V.int 100 : V)] [] (He.ma K (He.ga K "Web") "__init__") fd) :
    FnOk P w K mg base CX0 3 (He.ma K (He.ga K "Web") "__init__") fd ["self", "by"] (sp_init K) := by
  refine fnok_of F sc_Web_UinitU (fun vs H Q E h => ?_) (fun cdv A outer s H vs Q E hr h => ?_)
  · obtain ⟨p, dx, l, rfl, _⟩ := h
    rfl
  · obtain ⟨p, dx, l, rfl, hp, l1, l2, q⟩ := h
    refine ⟨_, (pss_cons (ps_if (pt_not (pt_val (C8.pe_c (cal_is_whole T) hr (by decide) rfl (pa_cons (pv 1) (pa_cons pe_int (pa_cons (C8.pe_gc (by rfl) (c_MOST_BY T)) pa_nil)))))) (pss_one ps_never) pss_nil)
      (pss_cons (ps_fld (pv 0) (pv 1) rfl)
      (pss_cons (ps_fld (pv 0) (pe_tup pa_nil) rfl)
      (pss_cons (ps_fld (pv 0) (pe_tup pa_nil) rfl)
      (pss_one (ps_fld (pv 0) (pe_tup pa_nil) rfl)))))), ?_⟩
    refine ⟨_, rfl, l, 1, 1000, rfl, _, rfl, ?_⟩
    rw [decide_eq_true (show (1 : Int) ≤ l ∧ l ≤ 1000 from ⟨l1, l2⟩)]
    refine iteF ?_
    -- self.by = by
    refine ⟨_, rfl, _, rfl, p, CW K, dx, [], rfl, hp, cl_Web T, na_by T, (by show 0 < 1000; decide), ?_⟩
    -- the three rows
    refine ⟨Nat.zero_le _, fun a na => ?_⟩
    have npa : p ≠ a := fun e => by
      rw [← e, upd_same] at na
      cases na
    refine ⟨_, rfl, p, CW K, dx, _, rfl, (by rw [upd_ne npa]; exact up_eq rfl), cl_Web T, na_moment_rows T, (by show 1 < 1000; decide), ?_⟩
    refine ⟨Nat.zero_le _, fun b nb => ?_⟩
    have npb : p ≠ b := fun e => by
      rw [← e, upd_same] at nb
      cases nb
    have nab : a ≠ b := fun e => by
      rw [← e, upd_ne npa.symm, upd_same] at nb
      cases nb
    refine ⟨_, rfl, p, CW K, dx, _, rfl, (by rw [upd_ne npb]; exact up_eq rfl), cl_Web T, na_span_rows T, (by rw [pf0, pf1]; show 2 < 1000; decide), ?_⟩
    refine ⟨Nat.zero_le _, fun c nc => ?_⟩
    have npc : p ≠ c := fun e => by
      rw [← e, upd_same] at nc
      cases nc
    have nbc : b ≠ c := fun e => by
      rw [← e, upd_ne npb.symm, upd_same] at nc
      cases nc
    have nac : a ≠ c := fun e => by
      rw [← e, upd_ne npa.symm, upd_ne nab, upd_ne npa.symm, upd_same] at nc
      cases nc
    refine ⟨_, rfl, p, CW K, dx, _, rfl, (by rw [upd_ne npc]; exact up_eq rfl), cl_Web T, na_tie_rows T, (by rw [pf0, pf1, pf2]; show 3 < 1000; decide), ?_⟩
    refine q a b c _ (fun x o e hx => ?_) (up_eq (by rw [pf0, pf1, pf2, pf3]; rfl)) ?_ ?_ ?_
    · have ea : (upd H p (.ins (CW K) dx (putF "by" (.int l) []))) x = some o := by
        rw [upd_ne hx]
        exact e
      have nxa : x ≠ a := ne_of_none ea na
      have eb : (upd (upd (upd H p (.ins (CW K) dx (putF "by" (.int l) []))) a (.tup [])) p (.ins (CW K) dx (putF "moment_rows" (.ref a) (putF "by" (.int l) [])))) x = some o := by
        rw [upd_ne hx, upd_ne nxa]
        exact ea
      have nxb : x ≠ b := ne_of_none eb nb
      have nxc : x ≠ c := ne_of_none (by rw [upd_ne hx, upd_ne nxb]; exact eb) nc
      rw [upd_ne hx, upd_ne nxc, upd_ne hx, upd_ne nxb]
      exact eb
    · rw [upd_ne npa.symm, upd_ne nac, upd_ne npa.symm, upd_ne nab, upd_ne npa.symm, upd_same]
    · rw [upd_ne npb.symm, upd_ne nbc, upd_ne npb.symm, upd_same]
    · rw [upd_ne npc.symm, upd_same]
theorem mak_Web (T : Tp K mg) : Mak P w K mg base 3 "Web" (CW K) (sp_init K) [] := by
  obtain ⟨fd, F⟩ := f_Web_UinitU T
  obtain ⟨ds, hv, hb⟩ := F.binds1 (ps := ["self", "by"]) 2 1 (by simp) rfl fun T kV doc pm an cdv ct us its h1 h2 => match us, its, h1, h2 with
    | [_, _], [_], _, _ => ⟨_, rfl, rfl⟩
  exact ⟨_, fd, ["self", "by"], ds, mk_Web T, fn_init T F, g_Web T, hb, hv⟩
theorem mak0_Web (T : Tp K mg) : Mak P w K mg base 3 "Web" (CW K) (sp_init K) [.int 100] := by
  obtain ⟨fd, F⟩ := f_Web_UinitU T
  obtain ⟨ds, hv, hb⟩ := F.binds1 (ps := ["self", "by"]) 1 0 (by simp) rfl fun T kV doc pm an cdv ct us its h1 h2 => match us, its, h1, h2 with
    | [_], [_], _, _ => ⟨_, rfl, rfl⟩
  exact ⟨_, fd, ["self", "by"], ds, mk_Web T, fn_init T F, g_Web T, hb, hv⟩
end
end Tw

set_option maxHeartbeats 4000000
namespace Tw
open PySem PySem.Spec PyProof.Rows L2
theorem Same.upd' {H H1 : Hp} {p : Addr} {o : HO} (s : Same H H1) (h : H1 p = none) : Same H (upd H1 p o) := s.trans (same_upd h)
/-- a new list is written again: what was ahead of it stays -/
theorem same_put {H H1 : Hp} {D : Addr} {o : HO} (s : Same H H1) (nD : H D = none) : Same H (upd H1 D o) := fun b x e => by
  rw [upd_ne (ne_of_none e nD)]
  exact s b x e
section
variable {P : Program} {w : World} {K : PySem.W.Frag} {mg : Str → Option Value} {base : Heap}
/-! ### woven -/
def sp_woven (K : PySem.W.Frag) : Sp := fun vs H Q _ => ∃ (m : Md) (a b c : Addr) (ws bs : List V), vs = [.int m.last, .ref a, .ref b, .ref c] ∧ H a = some (.tup (m.own.map V.str)) ∧ H b = some (.tup ws) ∧ Rows H ws (m.wd.map Wd.row) ∧ H c = some (.tup bs) ∧ Rows H bs (m.bd.map Bd.row) ∧
  (m.own.length ≤ 10 ∧ m.wd.length ≤ 4 ∧ m.bd.length ≤ 40) ∧ (1 ≤ m.last ∧ m.last ≤ 1000) ∧ ∀ (p : Addr) (H' : Hp), Same H H' → H p = none → WebAt (CW K) H' p m → Q (.ref p) H'
theorem cal_woven (T : Tp K mg) : Cal P w K mg base 5 "woven" (sp_woven K) := by
  obtain ⟨fd, F⟩ := f_woven T
  refine cal_of F (g_woven T) (b_woven F) sc_woven (fun vs H Q E h => ?_) (fun cdv A outer s H vs Q E hr h => ?_)
  · obtain ⟨m, a, b, c, ws, bs, rfl, _⟩ := h
    rfl
  · obtain ⟨m, a, b, c, ws, bs, rfl, ha, hb, rb, hc, rc, hl, hla, q⟩ := h
    refine ⟨_, (pss_cons (ps_set (i := 4) sc_woven.nd rfl (.inl rfl) (C8.pe_mk (mak_Web T) hr (by decide) rfl (pa_cons (pv 0) pa_nil)))
      (pss_cons (ps_fld (pv 4) (pe_callTy call_tuple_of (by rfl) (z_tuple T) bb_tuple (pa_cons (pv 1) pa_nil)) rfl)
      (pss_cons (ps_fld (pv 4) (pe_callTy call_tuple_of (by rfl) (z_tuple T) bb_tuple (pa_cons (pv 2) pa_nil)) rfl)
      (pss_cons (ps_fld (pv 4) (pe_callTy call_tuple_of (by rfl) (z_tuple T) bb_tuple (pa_cons (pv 3) pa_nil)) rfl)
      (pss_one (ps_ret (pv 4))))))), ?_⟩
    refine ⟨_, rfl, fun x dx nx ndx ne => ⟨x, dx, m.last, rfl, upd_same, hla.1, hla.2, fun a0 b0 c0 H1 kp hp ha0 hb0 hc0 => ⟨rfl, ?_⟩⟩⟩
    have s1 : Same H H1 := Same.made nx ndx kp
    have nax : a ≠ x := ne_of_none ha nx
    have nbx : b ≠ x := ne_of_none hb nx
    have ncx : c ≠ x := ne_of_none hc nx
    refine ⟨_, rfl, a, _, rfl, .inr ⟨.inl (.inl (s1 _ _ ha)), _, rfl, x, CW K, dx, _, rfl, hp, cl_Web T, na_moment_rows T, (by show 4 < 1000; decide), ?_⟩⟩
    refine ⟨_, rfl, b, _, rfl, .inr ⟨.inl (.inl (by rw [upd_ne nbx]; exact s1 _ _ hb)), _, rfl, x, CW K, dx, _, rfl, up_eq (by rw [wf_pm]), cl_Web T, na_span_rows T, (by show 4 < 1000; decide), ?_⟩⟩
    refine ⟨_, rfl, c, _, rfl, .inr ⟨.inl (.inl (by rw [upd_ne ncx, upd_ne ncx]; exact s1 _ _ hc)), _, rfl, x, CW K, dx, _, rfl, up_eq (by rw [wf_ps]), cl_Web T, na_tie_rows T, (by show 4 < 1000; decide), ?_⟩⟩
    have s2 : Same H (upd (upd (upd H1 x (.ins (CW K) dx (putF "moment_rows" (.ref a) (wf m.last a0 b0 c0)))) x (.ins (CW K) dx (putF "span_rows" (.ref b) (wf m.last a b0 c0)))) x (.ins (CW K) dx (putF "tie_rows" (.ref c) (wf m.last a b c0)))) := fun y o e => by
      have ny : y ≠ x := ne_of_none e nx
      rw [upd_ne ny, upd_ne ny, upd_ne ny]
      exact s1 _ _ e
    refine ⟨_, rfl, q x _ s2 nx ⟨⟨dx, a, b, c, ws, bs, up_eq (by rw [wf_pt]), s2 _ _ ha, s2 _ _ hb, rb.keep (Kt.of s2), s2 _ _ hc, rc.keep (Kt.of s2)⟩, hl, hla⟩⟩
/-! ### moments, spans, ties -/
def sp_moments (K : PySem.W.Frag) : Sp := fun vs H Q _ => ∃ (p : Addr) (m : Md), vs = [.ref p] ∧ WebAt (CW K) H p m ∧ ∀ q, H q = none → Q (.ref q) (upd H q (.lst (m.own.map V.str)))
theorem met_Web_moments (T : Tp K mg) : Met P w K mg base 2 (CW K) "moments" (sp_moments K) := by
  obtain ⟨fd, F⟩ := f_Web_moments T
  refine met_of F (cl_Web T) (me_Web_moments T) (b_Web_moments F) sc_Web_moments (fun vs H Q E h => ?_) (fun cdv A outer s H vs Q E hr h => ?_)
  · obtain ⟨p, m, rfl, _⟩ := h
    rfl
  · obtain ⟨p, m, rfl, W, q⟩ := h
    obtain ⟨dx, a, b, c, ws, bs, h1, h2, h3, h4, h5, h6⟩ := W.ex
    refine ⟨_, (pss_one (ps_ret (pe_callTy call_list_of (by rfl) (z_list T) bb_list (pa_cons (pe_fld (pv 0) rfl) pa_nil)))), ?_⟩
    exact ⟨_, rfl, p, CW K, dx, _, _, rfl, h1, cl_Web T, na_moment_rows T, wf_m, a, _, rfl, .inr (.inl (.inl h2)), q⟩
def sp_spans (K : PySem.W.Frag) : Sp := fun vs H Q _ => ∃ (p : Addr) (m : Md), vs = [.ref p] ∧ WebAt (CW K) H p m ∧ ∀ ws q, Rows H ws (m.wd.map Wd.row) → H q = none → Q (.ref q) (upd H q (.lst ws))
theorem met_Web_spans (T : Tp K mg) : Met P w K mg base 2 (CW K) "spans" (sp_spans K) := by
  obtain ⟨fd, F⟩ := f_Web_spans T
  refine met_of F (cl_Web T) (me_Web_spans T) (b_Web_spans F) sc_Web_spans (fun vs H Q E h => ?_) (fun cdv A outer s H vs Q E hr h => ?_)
  · obtain ⟨p, m, rfl, _⟩ := h
    rfl
  · obtain ⟨p, m, rfl, W, q⟩ := h
    obtain ⟨dx, a, b, c, ws, bs, h1, h2, h3, h4, h5, h6⟩ := W.ex
    refine ⟨_, (pss_one (ps_ret (pe_callTy call_list_of (by rfl) (z_list T) bb_list (pa_cons (pe_fld (pv 0) rfl) pa_nil)))), ?_⟩
    exact ⟨_, rfl, p, CW K, dx, _, _, rfl, h1, cl_Web T, na_span_rows T, wf_s, b, _, rfl, .inr (.inl (.inl h3)), fun l => q ws l h4⟩
def sp_ties (K : PySem.W.Frag) : Sp := fun vs H Q _ => ∃ (p : Addr) (m : Md), vs = [.ref p] ∧ WebAt (CW K) H p m ∧ ∀ bs q, Rows H bs (m.bd.map Bd.row) → H q = none → Q (.ref q) (upd H q (.lst bs))
theorem met_Web_ties (T : Tp K mg) : Met P w K mg base 2 (CW K) "ties" (sp_ties K) := by
  obtain ⟨fd, F⟩ := f_Web_ties T
  refine met_of F (cl_Web T) (me_Web_ties T) (b_Web_ties F) sc_Web_ties (fun vs H Q E h => ?_) (fun cdv A outer s H vs Q E hr h => ?_)
  · obtain ⟨p, m, rfl, _⟩ := h
    rfl
  · obtain ⟨p, m, rfl, W, q⟩ := h
    obtain ⟨dx, a, b, c, ws, bs, h1, h2, h3, h4, h5, h6⟩ := W.ex
    refine ⟨_, (pss_one (ps_ret (pe_callTy call_list_of (by rfl) (z_list T) bb_list (pa_cons (pe_fld (pv 0) rfl) pa_nil)))), ?_⟩
    exact ⟨_, rfl, p, CW K, dx, _, _, rfl, h1, cl_Web T, na_tie_rows T, wf_t, c, _, rfl, .inr (.inl (.inl h5)), fun l => q bs l h6⟩
/-! ### points -/
def sp_points (K : PySem.W.Frag) : Sp := fun vs H Q _ => ∃ (p : Addr) (m : Md), vs = [.ref p] ∧ WebAt (CW K) H p m ∧ ∀ q H', Same H H' → H q = none → H' q = some (.lst (m.pts.map V.str)) → Q (.ref q) H'
theorem met_Web_points (T : Tp K mg) : Met P w K mg base 3 (CW K) "points" (sp_points K) := by
  obtain ⟨fd, F⟩ := f_Web_points T
  refine met_of F (cl_Web T) (me_Web_points T) (b_Web_points F) sc_Web_points (fun vs H Q E h => ?_) (fun cdv A outer s H vs Q E hr h => ?_)
  · obtain ⟨p, m, rfl, _⟩ := h
    rfl
  · obtain ⟨p, m, rfl, W, q⟩ := h
    obtain ⟨dx, a, b, c, ws, bs, h1, h2, h3, h4, h5, h6⟩ := W.ex
    have hl := W.len
    have hw : ws.length = m.wd.length := by
      rw [h4.len, List.length_map]
    refine ⟨_, (pss_cons (ps_setLc (i := 1) (own := [("span", 2)]) (g := gName 2) (tt := tYes) rfl sc_Web_points.nd rfl rfl (sw_true rfl rfl rfl (by decide +kernel)) (pi_tup (pe_fld (pv 0) rfl)) (blkOk_by (N := N_Web_points) (sc := defScope s_Web_points) (by decide +kernel)) (fun _ _ _ _ _ => (pg_name (i := 2) sc_Web_points.nd rfl (.inl rfl))) (fun _ _ _ _ _ => pts_nil) (fun _ _ _ _ _ => (pe_ix (ix_tupK (K := K) rfl) (pv 2) pe_int (fun _ _ => rfl))))
      (pss_one (ps_ret (pe_op op_cat (pe_op op_cat (pe_lst (pa_cons (C8.pe_gc (by rfl) (c_START T)) pa_nil)) (C8.pe_mt0 (met_Web_moments T) hr (by decide) (pv 0))) (pv 1))))), ?_⟩
    refine ⟨_, rfl, p, CW K, dx, _, _, rfl, h1, cl_Web T, na_span_rows T, wf_s, b, rfl, ⟨_, .inl (.inl h3)⟩, fun D nD => ?_⟩
    refine lc_tup (K := K) (a := b) (xs := ws) (fun i H1 => Same H H1 ∧ H1 D = some (.lst (((m.wd.map (·.en)).take i).map V.str))) ⟨same_upd nD, upd_same⟩ (fun i H1 _ ⟨s1, _⟩ => .inl (.inl (s1 _ _ h3))) ?_ ?_
    · rintro i x H1 hx ⟨s1, d1⟩
      obtain ⟨t, r, rfl, hr', ht⟩ := h4.at hx
      rw [List.getElem?_map] at hr'
      cases e : m.wd[i]? with
      | none =>
        rw [e] at hr'
        cases hr'
      | some y =>
        rw [e] at hr'
        cases hr'
        have hi : i < m.wd.length := (List.getElem?_eq_some_iff.mp e).1
        refine ⟨rfl, yes_i (iteT ⟨_, rfl, t, _, 0, _, rfl, rfl, .inl (.inl (s1 _ _ ht)), atI_nat (j := 0) rfl, _, d1, ?_, ?_, ?_⟩)⟩
        · rw [List.length_map, List.length_take]
          exact small1000 (by omega)
        · exact same_put s1 nD
        · rw [upd_same, List.take_add_one, List.getElem?_map, e, List.map_append]
          rfl
    · rintro H1 ⟨s1, d1⟩
      have en : (m.wd.map (·.en)).take ws.length = m.wd.map (·.en) := List.take_of_length_le (by rw [List.length_map]; omega)
      rw [en] at d1
      -- [START] + self.moments() + ends
      refine ⟨by show 1 ≤ sizeLine; decide, fun l nl => ?_⟩
      have s2 : Same H1 (upd H1 l (.lst [.str "start"])) := same_upd nl
      have W2 := (W.same s1).same s2
      obtain ⟨dx2, _, _, _, _, _, g1, _⟩ := W2.ex
      refine ⟨_, rfl, p, _, _, rfl, g1, wf_no (by decide +kernel), p, m, rfl, W2, fun k nk => ?_⟩
      have nlk : l ≠ k := fun z => by
        rw [← z, upd_same] at nk
        cases nk
      have s3 := same_upd (o := .lst (m.own.map V.str)) nk
      refine ⟨l, k, _, _, rfl, rfl, (by rw [upd_ne nlk]; exact upd_same), upd_same, ?_, fun r nr => ?_⟩
      · rw [List.length_map]
        exact Nat.le_of_lt (small1000 (by show 1 + _ ≤ 1000; omega))
      · have s4 := same_upd (o := .lst ([.str "start"] ++ m.own.map V.str)) nr
        have nDr : D ≠ r := ne_of_none (s3 _ _ (s2 _ _ d1)) nr
        refine ⟨_, rfl, r, D, _, _, rfl, rfl, upd_same, (s4 _ _ (s3 _ _ (s2 _ _ d1))), ?_, fun u nu => ?_⟩
        · rw [List.length_append, List.length_map, List.length_map, List.length_map]
          exact Nat.le_of_lt (small1000 (by show 1 + _ + _ ≤ 1000; omega))
        · have s5 := same_upd (o := .lst ([.str "start"] ++ m.own.map V.str ++ (m.wd.map (·.en)).map V.str)) nu
          have sa := ((s1.trans s2).trans s3).trans s4
          refine q u _ (sa.trans s5) (sa.free nu) ?_
          rw [upd_same]
          unfold Md.pts
          rw [List.map_cons, List.map_append]
          rfl
end
end Tw

set_option maxHeartbeats 4000000
namespace Tw
open PySem PySem.Spec PyProof.Rows L2
/-- the two bounds of a tie, good -/
structure BOk (bo to : Option Int) : Prop where
  one : ¬ (bo = none ∧ to = none)
  lo : ∀ x, bo = some x → -1000 ≤ x ∧ x ≤ 1000
  hi : ∀ x, to = some x → -1000 ≤ x ∧ x ≤ 1000
  le : ∀ x y, bo = some x → to = some y → x ≤ y
def tls (bo to : Option Int) : List Int := bo.toList ++ to.toList
theorem BOk.sh {bo to : Option Int} (h : BOk bo to) : (∀ x ∈ tls bo to, -1000 ≤ x ∧ x ≤ 1000) ∧ ((∃ u, tls bo to = [u]) ∨ ∃ u v, tls bo to = [u, v] ∧ u ≤ v) := by
  cases bo with
  | none =>
    cases to with
    | none => exact absurd ⟨rfl, rfl⟩ h.one
    | some y =>
      refine ⟨fun x hx => ?_, .inl ⟨y, rfl⟩⟩
      have e : x = y := by simpa [tls] using hx
      rw [e]
      exact h.hi y rfl
  | some x0 =>
    cases to with
    | none =>
      refine ⟨fun x hx => ?_, .inl ⟨x0, rfl⟩⟩
      have e : x = x0 := by simpa [tls] using hx
      rw [e]
      exact h.lo x0 rfl
    | some y =>
      refine ⟨fun x hx => ?_, .inr ⟨x0, y, rfl, h.le x0 y rfl rfl⟩⟩
      have e : x = x0 ∨ x = y := by simpa [tls] using hx
      rcases e with e | e
      · rw [e]
        exact h.lo x0 rfl
      · rw [e]
        exact h.hi y rfl
theorem oV_non {o : Option Int} : decide (oV o = V.non) = o.isNone := by
  cases o <;> simp [oV]
section
variable {P : Program} {w : World} {K : PySem.W.Frag} {mg : Str → Option Value} {base : Heap}
/-! ### are_bounds -/
def sp_are_bounds : Sp := fun vs H Q _ => ∃ bo to : Option Int, vs = [oV bo, oV to] ∧ BOk bo to ∧ ∀ H', Same H H' → Q (.bl true) H'
theorem cal_are_bounds (T : Tp K mg) : Cal P w K mg base 3 "are_bounds" sp_are_bounds := by
  obtain ⟨fd, F⟩ := f_are_bounds T
  refine cal_of F (g_are_bounds T) (b_are_bounds F) sc_are_bounds (fun vs H Q E h => ?_) (fun cdv A outer s H vs Q E hr h => ?_)
  · obtain ⟨bo, to, rfl, _⟩ := h
    rfl
  · obtain ⟨bo, to, rfl, B, q⟩ := h
    obtain ⟨hin, hsh⟩ := B.sh
    refine ⟨_, (pss_cons (ps_setLc (i := 2) (own := [("bound", 3)]) (g := gName 3) rfl sc_are_bounds.nd rfl rfl (sw_true rfl rfl rfl (by decide +kernel)) (pi_tup (pe_tup (pa_cons (pv 0) (pa_cons (pv 1) pa_nil)))) (blkOk_by (N := N_are_bounds) (sc := defScope s_are_bounds) (by decide +kernel)) (fun _ _ _ _ _ => (pg_name (i := 3) sc_are_bounds.nd rfl (.inl rfl))) (fun _ _ _ _ _ => (pts_one (pt_cmpR op_notN (pv 3) pe_non (nomark _)))) (fun _ _ _ _ _ => (pv 3)))
      (pss_cons (ps_if (pt_not (pt_val (pe_callB (cr_all rfl) (by rfl) (z_all T) bb_all (pa_cons (pe_lc (own := [("bound", 3)]) (g := gName 3) (tt := tYes) rfl sc_are_bounds.nd (pi_list (pv 2)) (blkOk_by (N := N_are_bounds) (sc := defScope s_are_bounds) (by decide +kernel)) (fun _ _ _ _ _ => (pg_name (i := 3) sc_are_bounds.nd rfl (.inl rfl))) (fun _ _ _ _ _ => pts_nil) (fun _ _ _ _ _ => (C8.pe_c (cal_is_whole T) hr (by decide) rfl (pa_cons (pv 3) (pa_cons (pe_un un_neg (C8.pe_gc (by rfl) (c_MOST_BOUND T))) (pa_cons (C8.pe_gc (by rfl) (c_MOST_BOUND T)) pa_nil)))))) pa_nil)))) (pss_one (ps_ret pe_bl)) pss_nil)
      (pss_one (ps_ret (pe_and (pe_cmpR op_gt (pe_callB call_len_seq (by rfl) (z_len T) bb_len (pa_cons (pv 2) pa_nil)) pe_int (nomark _)) (pe_one (pe_cmpR op_le (pe_ix ix_list (pv 2) pe_int (fun _ _ => rfl)) (pe_ix ix_list (pv 2) (pe_un un_neg pe_int) (fun _ _ => rfl)) (nomark _)))))))), ?_⟩
    refine ⟨_, rfl, _, rfl, (by show 2 ≤ sizeLine; decide), fun t nt => ?_⟩
    have s1 : Same H (upd H t (.tup [oV bo, oV to])) := same_upd nt
    refine ⟨t, rfl, ⟨_, .inl (.inl upd_same)⟩, fun D nD => ?_⟩
    have nDH : H D = none := s1.free nD
    refine lc_tup (K := K) (a := t) (xs := [oV bo, oV to]) (fun i H1 => Same (upd H t (.tup [oV bo, oV to])) H1 ∧ H1 D = some (.lst ((((([bo, to] : List (Option Int)).take i).filterMap id)).map V.int)))
      ⟨same_upd nD, upd_same⟩ (fun i H1 _ ⟨s2, _⟩ => .inl (.inl (s2 _ _ upd_same))) ?_ ?_
    · rintro i x H1 hx ⟨s2, d1⟩
      obtain ⟨o, eo, ex⟩ : ∃ o : Option Int, ([bo, to] : List (Option Int))[i]? = some o ∧ x = oV o := by
        match i, hx with
        | 0, hx => exact ⟨bo, rfl, (Option.some.inj hx).symm⟩
        | 1, hx => exact ⟨to, rfl, (Option.some.inj hx).symm⟩
      subst ex
      have hi : i < 2 := (List.getElem?_eq_some_iff.mp eo).1
      have e2 : (([bo, to] : List (Option Int)).take (i + 1)).filterMap id = (([bo, to] : List (Option Int)).take i).filterMap id ++ o.toList := by
        rw [List.take_add_one, eo, List.filterMap_append]
        cases o <;> rfl
      refine ⟨rfl, _, rfl, rfl, _, rfl, ?_⟩
      rw [oV_non]
      cases o with
      | none =>
        refine iteF ⟨s2, ?_⟩
        rw [e2, d1]
        show _ = some (HO.lst (List.map V.int (_ ++ [])))
        rw [List.append_nil]
      | some z =>
        refine iteT ⟨_, rfl, _, d1, ?_, ?_, ?_⟩
        · rw [List.length_map]
          refine Nat.lt_of_le_of_lt (List.length_filterMap_le _ _) ?_
          rw [List.length_take]
          exact small1000 (by show min i 2 ≤ 1000; omega)
        · exact same_put s2 nD
        · rw [upd_same, e2, List.map_append]
          rfl
    · rintro H1 ⟨s2, d1⟩
      have d2 : H1 D = some (.lst ((tls bo to).map V.int)) := by
        rw [d1]
        cases bo <;> cases to <;> rfl
      have s3 : Same H H1 := s1.trans s2
      have hlen : (tls bo to).length ≤ 2 := by
        rcases hsh with ⟨u, e⟩ | ⟨u, v, e, _⟩ <;> rw [e] <;> simp
      -- all([is_whole(..) for bound in told])
      refine ⟨_, rfl, D, rfl, ⟨_, .inl (.inl d2)⟩, fun L nL => ?_⟩
      have nLH : H L = none := s3.free nL
      have nDL : D ≠ L := ne_of_none d2 nL
      refine lc_list (K := K) (a := D) (xs := (tls bo to).map V.int) (fun i H2 => Same H H2 ∧ H2 D = some (.lst ((tls bo to).map V.int)) ∧ H2 L = some (.lst ((List.replicate i true).map V.bl)))
        ⟨s3.trans (same_upd nL), by rw [upd_ne nDL]; exact d2, upd_same⟩ (fun i H2 _ ⟨_, d, _⟩ => .inl (.inl d)) ?_ ?_
      · rintro i x H2 hx ⟨s4, d4, l4⟩
        rw [List.getElem?_map] at hx
        cases e : (tls bo to)[i]? with
        | none =>
          rw [e] at hx
          cases hx
        | some z =>
          rw [e] at hx
          cases hx
          have hi : i < (tls bo to).length := (List.getElem?_eq_some_iff.mp e).1
          have hz := hin z (List.mem_of_getElem? e)
          refine ⟨rfl, yes_i (iteT ⟨_, rfl, 1000, rfl, z, -1000, 1000, rfl, _, l4, ?_, ?_, ?_, ?_⟩)⟩
          · rw [List.length_map, List.length_replicate]
            exact small1000 (by omega)
          · exact same_put s4 nLH
          · rw [upd_ne nDL]
            exact d4
          · rw [upd_same, decide_eq_true hz, List.replicate_succ', List.map_append]
            rfl
      · rintro H2 ⟨s4, d4, l4⟩
        refine ⟨L, _, rfl, .inl (.inl l4), _, rfl, ?_⟩
        rw [show (List.replicate ((tls bo to).map V.int).length true).all id = true by simp]
        refine iteF ?_
        -- len(told) > 0 and told[0] <= told[-1]
        refine ⟨_, rfl, D, _, rfl, .inl (.inl (.inl d4)), _, 0, rfl, rfl, _, rfl, ?_⟩
        have fin : ∀ (u v : Int) (pre : List Int), (tls bo to)[0]? = some u → tls bo to = pre ++ [v] → u ≤ v → (if decide ((0 : Int) < ((tls bo to).map V.int).length) = true then
            tOp (rI0 fun i j => .bl (decide (i ≤ j))) (tOp (rIxL K) (tVar 2) (tC (.int 0))) (tOp (rIxL K) (tVar 2) (tUn (rU fun i => .int (-i)) (tC (.int 1)))) [some (oV bo), some (oV to), some (.ref D), none] H2 Q else Q (.bl false) H2) := by
          intro u v pre hu hv huv
          have h0 : 0 < (tls bo to).length := by
            rw [hv, List.length_append]
            exact Nat.succ_pos _
          rw [decide_eq_true (by rw [List.length_map]; omega)]
          have hz : (tls bo to).map V.int = pre.map V.int ++ [.int v] := by
            rw [hv, List.map_append]
            rfl
          refine iteT ⟨_, rfl, D, _, 0, .int u, rfl, rfl, .inl (.inl d4), atI_nat (j := 0) (by rw [List.getElem?_map, hu]; rfl), _, rfl, _, rfl, D, _, _, .int v, rfl, rfl, .inl (.inl d4), ?_, u, v, rfl, rfl, ?_⟩
          · rw [hz]
            exact atI_last _ _
          · show Q (.bl (decide (u ≤ v))) H2
            rw [decide_eq_true huv]
            exact q H2 s4
        rcases hsh with ⟨u, e⟩ | ⟨u, v, e, huv⟩
        · exact fin u u [] (by rw [e]; rfl) (by rw [e]; rfl) (Int.le_refl _)
        · exact fin u v [u] (by rw [e]; rfl) (by rw [e]; rfl) huv
/-! ### is_begin, need_free_name, need_point -/
def sp_is_begin (K : PySem.W.Frag) : Sp := fun vs H Q _ => ∃ (p : Addr) (m : Md) (z : Str), vs = [.ref p, .str z] ∧ WebAt (CW K) H p m ∧ (z = "start" ∨ z ∈ m.own) ∧ ∀ H', Same H H' → Q (.bl true) H'
theorem cal_is_begin (T : Tp K mg) : Cal P w K mg base 3 "is_begin" (sp_is_begin K) := by
  obtain ⟨fd, F⟩ := f_is_begin T
  refine cal_of F (g_is_begin T) (b_is_begin F) sc_is_begin (fun vs H Q E h => ?_) (fun cdv A outer s H vs Q E hr h => ?_)
  · obtain ⟨p, m, z, rfl, _⟩ := h
    rfl
  · obtain ⟨p, m, z, rfl, W, hz, q⟩ := h
    obtain ⟨dx, a, b, c, ws, bs, h1, _⟩ := W.ex
    refine ⟨_, (pss_one (ps_ret (C8.pe_c (cal_is_one_of T) hr (by decide) rfl (pa_cons (pv 1) (pa_cons (pe_op op_cat (pe_lst (pa_cons (C8.pe_gc (by rfl) (c_START T)) pa_nil)) (C8.pe_mt0 (met_Web_moments T) hr (by decide) (pv 0))) pa_nil))))), ?_⟩
    refine ⟨_, rfl, by show 1 ≤ sizeLine; decide, fun l nl => ?_⟩
    have s1 : Same H (upd H l (.lst [.str "start"])) := same_upd nl
    refine ⟨_, rfl, p, dx, _, rfl, s1 _ _ h1, wf_no (by decide +kernel), p, m, rfl, W.same s1, fun k nk => ?_⟩
    have nlk : l ≠ k := fun e => by
      rw [← e, upd_same] at nk
      cases nk
    have s2 := same_upd (o := .lst (m.own.map V.str)) nk
    refine ⟨l, k, _, _, rfl, rfl, (by rw [upd_ne nlk]; exact upd_same), upd_same, ?_, fun r nr => ?_⟩
    · rw [List.length_map]
      have hl := W.len
      exact Nat.le_of_lt (small1000 (by show 1 + _ ≤ 1000; omega))
    · have s3 := same_upd (o := .lst ([.str "start"] ++ m.own.map V.str)) nr
      refine ⟨z, r, "start" :: m.own, rfl, upd_same, ?_⟩
      rw [decide_eq_true (List.mem_cons.mpr hz)]
      exact q _ ((s1.trans s2).trans s3)
def sp_need_free_name (K : PySem.W.Frag) : Sp := fun vs H Q _ => ∃ (p : Addr) (m : Md) (z : Str), vs = [.ref p, .str z] ∧ WebAt (CW K) H p m ∧ Nm z ∧ ¬ z ∈ m.pts ∧ ∀ H', Same H H' → Q .non H'
theorem cal_need_free_name (T : Tp K mg) : Cal P w K mg base 4 "need_free_name" (sp_need_free_name K) := by
  obtain ⟨fd, F⟩ := f_need_free_name T
  refine cal_of F (g_need_free_name T) (b_need_free_name F) sc_need_free_name (fun vs H Q E h => ?_) (fun cdv A outer s H vs Q E hr h => ?_)
  · obtain ⟨p, m, z, rfl, _⟩ := h
    rfl
  · obtain ⟨p, m, z, rfl, W, hn, hz, q⟩ := h
    refine ⟨_, (pss_cons (ps_if (pt_not (pt_val (C8.pe_c (cal_is_name T) hr (by decide) rfl (pa_cons (pv 1) pa_nil)))) (pss_one ps_never) pss_nil)
      (pss_one (ps_if (pt_cmpR op_in_seq (pv 1) (C8.pe_mt0 (met_Web_points T) hr (by decide) (pv 0)) (by rfl)) (pss_one ps_never) pss_nil))), ?_⟩
    refine ⟨_, rfl, z, rfl, hn, fun H1 s1 => ⟨_, rfl, iteF ?_⟩⟩
    have W1 := W.same s1
    obtain ⟨dx, a, b, c, ws, bs, h1, _⟩ := W1.ex
    refine ⟨_, rfl, _, rfl, p, dx, _, rfl, h1, wf_no (by decide +kernel), p, m, rfl, W1, fun k H2 s2 nk ek => ?_⟩
    refine ⟨k, _, rfl, .inl (.inl (.inl ek)), rfl, flat_strs _, _, rfl, ?_⟩
    show if inV (.str z) (m.pts.map V.str) = true then _ else _
    rw [in_strs, decide_eq_false hz]
    exact iteF (q H2 (s1.trans s2))
def sp_need_point (K : PySem.W.Frag) : Sp := fun vs H Q _ => ∃ (p : Addr) (m : Md) (z : Str), vs = [.ref p, .str z] ∧ WebAt (CW K) H p m ∧ z ∈ m.pts ∧ ∀ H', Same H H' → Q .non H'
theorem cal_need_point (T : Tp K mg) : Cal P w K mg base 4 "need_point" (sp_need_point K) := by
  obtain ⟨fd, F⟩ := f_need_point T
  refine cal_of F (g_need_point T) (b_need_point F) sc_need_point (fun vs H Q E h => ?_) (fun cdv A outer s H vs Q E hr h => ?_)
  · obtain ⟨p, m, z, rfl, _⟩ := h
    rfl
  · obtain ⟨p, m, z, rfl, W, hz, q⟩ := h
    obtain ⟨dx, a, b, c, ws, bs, h1, _⟩ := W.ex
    refine ⟨_, (pss_one (ps_if (pt_not (pt_val (C8.pe_c (cal_is_one_of T) hr (by decide) rfl (pa_cons (pv 1) (pa_cons (C8.pe_mt0 (met_Web_points T) hr (by decide) (pv 0)) pa_nil))))) (pss_one ps_never) pss_nil)), ?_⟩
    refine ⟨_, rfl, _, rfl, p, dx, _, rfl, h1, wf_no (by decide +kernel), p, m, rfl, W, fun k H2 s2 nk ek => ?_⟩
    refine ⟨z, k, _, rfl, ek, _, rfl, ?_⟩
    rw [decide_eq_true hz]
    exact iteF (q H2 s2)
/-! ### __len__ -/
def sp_len (K : PySem.W.Frag) : Sp := fun vs H Q _ => ∃ (p : Addr) (m : Md), vs = [.ref p] ∧ WebAt (CW K) H p m ∧ ∀ H', Same H H' → Q (.int (m.pts.length : Nat)) H'
theorem met_Web_UlenU (T : Tp K mg) : Met P w K mg base 4 (CW K) "__len__" (sp_len K) := by
  obtain ⟨fd, F⟩ := f_Web_UlenU T
  refine met_of F (cl_Web T) (me_Web_UlenU T) (b_Web_UlenU F) sc_Web_UlenU (fun vs H Q E h => ?_) (fun cdv A outer s H vs Q E hr h => ?_)
  · obtain ⟨p, m, rfl, _⟩ := h
    rfl
  · obtain ⟨p, m, rfl, W, q⟩ := h
    obtain ⟨dx, a, b, c, ws, bs, h1, _⟩ := W.ex
    refine ⟨_, (pss_one (ps_ret (pe_callB call_len_seq (by rfl) (z_len T) bb_len (pa_cons (C8.pe_mt0 (met_Web_points T) hr (by decide) (pv 0)) pa_nil)))), ?_⟩
    refine ⟨_, rfl, p, dx, _, rfl, h1, wf_no (by decide +kernel), p, m, rfl, W, fun k H2 s2 nk ek => ⟨k, _, rfl, .inl (.inl (.inl ek)), ?_⟩⟩
    rw [List.length_map]
    exact q H2 s2
theorem pts_len {C : Addr} {H : Hp} {p : Addr} {m : Md} (W : WebAt C H p m) : m.pts.length ≤ 15 := by
  have h := W.len
  unfold Md.pts
  rw [List.length_cons, List.length_append, List.length_map]
  omega
/-! ### __repr__ -/
def num (i : Int) : Str := (toString i : String)
theorem num_len : ∀ n : Fin 1001, (num ((n : Nat) : Int)).length ≤ 4 := by decide +kernel
theorem num_le {i : Int} (h0 : 0 ≤ i) (h1 : i ≤ 1000) : (num i).length ≤ 4 := by
  have h := num_len ⟨i.toNat, by omega⟩
  rw [show (((⟨i.toNat, by omega⟩ : Fin 1001) : Nat) : Int) = i from Int.toNat_of_nonneg h0] at h
  exact h
theorem num_log {i : Int} (h0 : 0 ≤ i) (h1 : i ≤ 1000) : i.natAbs.log2 < 1920 := by
  have h : i.natAbs < 2 ^ 1920 := Nat.lt_of_lt_of_le (show i.natAbs < 1024 by omega) (by decide +kernel)
  by_cases hz : i.natAbs = 0
  · rw [hz]
    decide
  · exact (Nat.log2_lt hz).mpr h
def webText (m : Md) : Str := ((((((Str.empty ++ ("Web(" : Str)) ++ num (m.pts.length : Nat)) ++ (" points, " : Str)) ++ num (m.bd.length : Nat)) ++ (" ties, by " : Str)) ++ num m.last) ++ (")" : Str)
theorem short {z : Str} {n : Nat} (h : z.length ≤ n) (hn : n ≤ 1000) : z.length ≤ sizeLine := Nat.le_of_lt (small1000 (Nat.le_trans h hn))
theorem app_le {a b : Str} {m n : Nat} (ha : a.length ≤ m) (hb : b.length ≤ n) : (a ++ b).length ≤ m + n := by
  rw [Str.length_append]
  omega
def sp_repr (K : PySem.W.Frag) : Sp := fun vs H Q _ => ∃ (p : Addr) (m : Md), vs = [.ref p] ∧ WebAt (CW K) H p m ∧ ∀ H', Same H H' → Q (.str (webText m)) H'
theorem met_Web_UreprU (T : Tp K mg) : Met P w K mg base 6 (CW K) "__repr__" (sp_repr K) := by
  obtain ⟨fd, F⟩ := f_Web_UreprU T
  refine met_of F (cl_Web T) (me_Web_UreprU T) (b_Web_UreprU F) sc_Web_UreprU (fun vs H Q E h => ?_) (fun cdv A outer s H vs Q E hr h => ?_)
  · obtain ⟨p, m, rfl, _⟩ := h
    rfl
  · obtain ⟨p, m, rfl, W, q⟩ := h
    obtain ⟨dx, a, b, c, ws, bs, h1, _⟩ := W.ex
    have hp := pts_len W
    have hl := W.len
    have hla := W.last
    refine ⟨_, (pss_one (ps_ret (pe_joined (.cons pe_str (.cons (pe_fmt (pe_callB (call_lenO (met_Web_UlenU T) hr (by decide)) (by rfl) (z_len T) bb_len (pa_cons (pv 0) pa_nil))) (.cons pe_str (.cons (pe_fmt (pe_callB call_len_seq (by rfl) (z_len T) bb_len (pa_cons (pe_fld (pv 0) rfl) pa_nil))) (.cons pe_str (.cons (pe_fmt (pe_fld (pv 0) rfl)) (.cons pe_str .nil)))))))))), ?_⟩
    have l0 : (Str.empty ++ ("Web(" : Str)).length ≤ 4 := by decide +kernel
    have l1 := app_le l0 (num_le (i := (m.pts.length : Nat)) (by omega) (by omega))
    have l2 := app_le l1 (show (" points, " : Str).length ≤ 9 by decide +kernel)
    have l3 := app_le l2 (num_le (i := (m.bd.length : Nat)) (by omega) (by omega))
    have l4 := app_le l3 (show (" ties, by " : Str).length ≤ 10 by decide +kernel)
    have l5 := app_le l4 (num_le (i := m.last) (by omega) (by omega))
    have l6 := app_le l5 (show (")" : Str).length ≤ 1 by decide +kernel)
    refine ⟨("Web(" : Str), rfl, short l0 (by decide), _, rfl, p, dx, _, rfl, h1, p, m, rfl, W, fun H2 s2 => ⟨_, rfl, by omega, by omega, .inr ⟨_, rfl, num_log (by omega) (by omega), _, rfl, short l1 (by decide), ?_⟩⟩⟩
    have W2 := W.same s2
    obtain ⟨dx2, a2, b2, c2, ws2, bs2, g1, g2, g3, g4, g5, g6⟩ := W2.ex
    have hb2 : bs2.length = m.bd.length := by rw [g6.len, List.length_map]
    refine ⟨_, rfl, short l2 (by decide), _, rfl, p, CW K, dx2, _, _, rfl, g1, cl_Web T, na_tie_rows T, wf_t, c2, _, rfl, .inr (.inl (.inl g5)), .inr ⟨_, rfl, num_log (by omega) (by omega), _, rfl, ?_, ?_⟩⟩
    · rw [hb2]
      exact short l3 (by decide)
    · rw [hb2]
      refine ⟨_, rfl, short l4 (by decide), _, rfl, p, CW K, dx2, _, _, rfl, g1, cl_Web T, na_by T, wf_by, .inr ⟨_, rfl, num_log (by omega) (by omega), _, rfl, short l5 (by decide), _, rfl, short l6 (by decide), ?_⟩⟩
      exact q H2 s2
end
end Tw

set_option maxHeartbeats 4000000
namespace Tw
open PySem PySem.Spec PyProof.Rows L2
theorem wh_int {lo hi : Int} {v : V} (h : whB lo hi v = true) : ∃ i : Int, v = .int i ∧ lo ≤ i ∧ i ≤ hi := by
  cases v with
  | int j =>
    have hj := of_decide_eq_true (show decide (lo ≤ j ∧ j ≤ hi) = true from h)
    exact ⟨j, rfl, hj.1, hj.2⟩
  | non => cases h
  | bl b => cases h
  | str z => cases h
  | byt b => cases h
  | flt b => cases h
  | ref b => cases h
  | ty b => cases h
/-- the two lengths are good -/
def lenB (a b : V) : Bool := whB 1 1000 a && match a with
  | .int i => whB i 1000 b
  | _ => false
def lateB (h : V) : Bool := decide (h = .non) || whB 0 1000 h
theorem len_ok {a b : V} (h : lenB a b = true) : ∃ i j : Int, a = .int i ∧ b = .int j ∧ 1 ≤ i ∧ i ≤ j ∧ j ≤ 1000 := by
  obtain ⟨h1, h2⟩ := Bool.and_eq_true_iff.mp h
  obtain ⟨i, rfl, i1, _⟩ := wh_int h1
  obtain ⟨j, rfl, j1, j2⟩ := wh_int (show whB i 1000 b = true from h2)
  exact ⟨i, j, rfl, rfl, i1, j1, j2⟩
theorem late_ok {h : V} (e : lateB h = true) : ∃ o : Option Int, h = oV o ∧ ∀ i, o = some i → 0 ≤ i ∧ i ≤ 1000 := by
  by_cases hn : h = .non
  · exact ⟨none, hn, fun i z => by cases z⟩
  · unfold lateB at e
    rw [decide_eq_false hn, Bool.false_or] at e
    obtain ⟨i, rfl, h1, h2⟩ := wh_int e
    exact ⟨some i, rfl, fun j z => by cases z; exact ⟨h1, h2⟩⟩
section
variable {P : Program} {w : World} {K : PySem.W.Frag} {mg : Str → Option Value} {base : Heap}
/-! ### are_lengths, is_lateness -/
def sp_are_lengths : Sp := fun vs H Q _ => ∃ a b : V, vs = [a, b] ∧ (plK a).isSome = true ∧ (plK b).isSome = true ∧ Q (.bl (lenB a b)) H
theorem cal_are_lengths (T : Tp K mg) : Cal P w K mg base 3 "are_lengths" sp_are_lengths := by
  obtain ⟨fd, F⟩ := f_are_lengths T
  refine cal_of F (g_are_lengths T) (b_are_lengths F) sc_are_lengths (fun vs H Q E h => ?_) (fun cdv A outer s H vs Q E hr h => ?_)
  · obtain ⟨a, b, rfl, _⟩ := h
    rfl
  · obtain ⟨a, b, rfl, pa, pb, q⟩ := h
    refine ⟨_, (pss_one (ps_ret (pe_and (C8.pe_c (cal_iswh T) hr (by decide) rfl (pa_cons (pv 0) (pa_cons pe_int (pa_cons (C8.pe_gc (by rfl) (c_MOST_LENGTH T)) pa_nil)))) (pe_one (C8.pe_c (cal_iswh T) hr (by decide) rfl (pa_cons (pv 1) (pa_cons (pv 0) (pa_cons (C8.pe_gc (by rfl) (c_MOST_LENGTH T)) pa_nil)))))))), ?_⟩
    refine ⟨_, rfl, a, 1, 1000, rfl, pa, _, rfl, ?_⟩
    cases ha : whB 1 1000 a with
    | false =>
      refine iteF ?_
      have e : lenB a b = false := by
        unfold lenB
        rw [ha, Bool.false_and]
      rw [e] at q
      exact q
    | true =>
      obtain ⟨i, rfl, i1, i2⟩ := wh_int ha
      refine iteT ⟨_, rfl, _, rfl, b, i, 1000, rfl, pb, ?_⟩
      have e : lenB (.int i) b = whB i 1000 b := by
        show (whB 1 1000 (.int i) && whB i 1000 b) = _
        rw [ha, Bool.true_and]
      rw [e] at q
      exact q
def sp_is_lateness : Sp := fun vs H Q _ => ∃ h : V, vs = [h] ∧ (plK h).isSome = true ∧ Q (.bl (lateB h)) H
theorem cal_is_lateness (T : Tp K mg) : Cal P w K mg base 3 "is_lateness" sp_is_lateness := by
  obtain ⟨fd, F⟩ := f_is_lateness T
  refine cal_of F (g_is_lateness T) (b_is_lateness F) sc_is_lateness (fun vs H Q E h => ?_) (fun cdv A outer s H vs Q E hr h => ?_)
  · obtain ⟨h, rfl, _⟩ := h
    rfl
  · obtain ⟨h, rfl, ph, q⟩ := h
    refine ⟨_, (pss_one (ps_ret (pe_or (pe_cmpR op_isN (pv 0) pe_non (nomark _)) (pe_one (C8.pe_c (cal_iswh T) hr (by decide) rfl (pa_cons (pv 0) (pa_cons pe_int (pa_cons (C8.pe_gc (by rfl) (c_MOST_LATE T)) pa_nil)))))))), ?_⟩
    refine ⟨_, rfl, rfl, _, rfl, ?_⟩
    unfold lateB at q
    by_cases hn : h = .non
    · rw [decide_eq_true hn] at q ⊢
      exact iteT q
    · rw [decide_eq_false hn, Bool.false_or] at q
      rw [decide_eq_false hn]
      exact iteF ⟨_, rfl, h, 0, 1000, rfl, ph, q⟩
end
section
variable {P : Program} {w : World} {K : PySem.W.Frag} {mg : Str → Option Value} {base : Heap}
/-! ### with_moment -/
def Md.addM (m : Md) (z : Str) : Md := { m with own := m.own ++ [z] }
def Md.addS (m : Md) (x : Wd) : Md := { m with wd := m.wd ++ [x] }
def Md.addT (m : Md) (x : Bd) : Md := { m with bd := m.bd ++ [x] }
def sp_with_moment (K : PySem.W.Frag) : Sp := fun vs H Q _ => ∃ (p : Addr) (m : Md) (z : Str), vs = [.ref p, .str z] ∧ WebAt (CW K) H p m ∧ Nm z ∧ ¬ z ∈ m.pts ∧ m.own.length < 10 ∧ ∀ (q : Addr) (H' : Hp), Same H H' → H q = none → WebAt (CW K) H' q (m.addM z) → Q (.ref q) H'
theorem met_Web_with_moment (T : Tp K mg) : Met P w K mg base 6 (CW K) "with_moment" (sp_with_moment K) := by
  obtain ⟨fd, F⟩ := f_Web_with_moment T
  refine met_of F (cl_Web T) (me_Web_with_moment T) (b_Web_with_moment F) sc_Web_with_moment (fun vs H Q E h => ?_) (fun cdv A outer s H vs Q E hr h => ?_)
  · obtain ⟨p, m, z, rfl, _⟩ := h
    rfl
  · obtain ⟨p, m, z, rfl, W, hn, hz, hl, q⟩ := h
    refine ⟨_, (pss_cons (ps_expr (C8.pe_c (cal_need_free_name T) hr (by decide) rfl (pa_cons (pv 0) (pa_cons (pv 1) pa_nil))))
      (pss_cons (ps_if (pt_cmpR op_ge (pe_callB call_len_seq (by rfl) (z_len T) bb_len (pa_cons (pe_fld (pv 0) rfl) pa_nil)) (C8.pe_gc (by rfl) (c_MOST_MOMENTS T)) (nomark _)) (pss_one ps_never) pss_nil)
      (pss_one (ps_ret (C8.pe_c (cal_woven T) hr (by decide) rfl (pa_cons (pe_fld (pv 0) rfl) (pa_cons (pe_tup (StX.pa_star (pe_fld (pv 0) rfl) (pa_cons (pv 1) pa_nil))) (pa_cons (pe_fld (pv 0) rfl) (pa_cons (pe_fld (pv 0) rfl) pa_nil))))))))), ?_⟩
    refine ⟨_, rfl, _, rfl, p, m, z, rfl, W, hn, hz, fun H1 s1 => ?_⟩
    have W1 := W.same s1
    obtain ⟨dx, a, b, c, ws, bs, h1, h2, h3, h4, h5, h6⟩ := W1.ex
    have hlen := W.len
    refine ⟨_, rfl, p, CW K, dx, _, _, rfl, h1, cl_Web T, na_moment_rows T, wf_m, a, _, rfl, .inr (.inl (.inl h2)), _, _, rfl, rfl, _, rfl, ?_⟩
    rw [decide_eq_false (by rw [List.length_map]; omega)]
    refine iteF ?_
    refine ⟨_, rfl, p, CW K, dx, _, _, rfl, h1, cl_Web T, na_by T, wf_by, _, rfl, p, CW K, dx, _, _, rfl, h1, cl_Web T, na_moment_rows T, wf_m, a, _, rfl, .inl (.inl (.inl h2)), _, rfl, ?_, fun t nt => ?_⟩
    · rw [List.length_append, List.length_map]
      exact Nat.le_of_lt (small1000 (by show _ + 1 ≤ 1000; omega))
    · have s2 := same_upd (o := .tup (m.own.map V.str ++ [.str z])) nt
      refine ⟨_, rfl, p, CW K, dx, _, _, rfl, s2 _ _ h1, cl_Web T, na_span_rows T, wf_s, _, rfl, p, CW K, dx, _, _, rfl, s2 _ _ h1, cl_Web T, na_tie_rows T, wf_t, ?_⟩
      refine ⟨m.addM z, t, b, c, ws, bs, rfl, ?_, s2 _ _ h3, h4.keep (Kt.of s2), s2 _ _ h5, h6.keep (Kt.of s2), ⟨?_, hlen.2.1, hlen.2.2⟩, W.last, fun x H2 s3 nx W3 => q x H2 ((s1.trans s2).trans s3) ((s1.trans s2).free nx) W3⟩
      · rw [upd_same]
        show _ = some (HO.tup ((m.own ++ [z]).map V.str))
        rw [List.map_append]
        rfl
      · show (m.own ++ [z]).length ≤ 10
        rw [List.length_append]
        show _ + 1 ≤ 10
        omega
/-! ### with_span -/
structure SpOk (m : Md) (x : Wd) : Prop where
  nm : Nm x.en
  fresh : ¬ x.en ∈ m.pts
  bg : x.bg = "start" ∨ x.bg ∈ m.own
  lo : 1 ≤ x.lo
  hi : x.lo ≤ x.hi
  top : x.hi ≤ 1000
  la : ∀ i, x.la = some i → 0 ≤ i ∧ i ≤ 1000
  few : m.wd.length < 4
def sp_with_span (K : PySem.W.Frag) : Sp := fun vs H Q _ => ∃ (p : Addr) (m : Md) (x : Wd), vs = [.ref p, .str x.en, .str x.bg, .int x.lo, .int x.hi, oV x.la] ∧ WebAt (CW K) H p m ∧ SpOk m x ∧ ∀ (q : Addr) (H' : Hp), Same H H' → H q = none → WebAt (CW K) H' q (m.addS x) → Q (.ref q) H'
theorem met_Web_with_span (T : Tp K mg) : MetN P w K mg base 6 (CW K) "with_span" (sp_with_span K) 5 ["late"] := by
  obtain ⟨fd, F⟩ := f_Web_with_span T
  refine ⟨_, fd, ["self", "end", "begin", "low", "high", "late"], _, cl_Web T, me_Web_with_span T, fnok_of (k := 5) F sc_Web_with_span (fun vs H Q E h => ?_) (fun cdv A outer s H vs Q E hr h => ?_), kbn_of F fun kV doc pm an cdv ct us ws h1 h2 => match us, ws, h1, h2 with
    | [_, _, _, _, _], [_], _, _ => rfl⟩
  · obtain ⟨p, m, x, rfl, _⟩ := h
    rfl
  · obtain ⟨p, m, x, rfl, W, S, q⟩ := h
    refine ⟨_, (pss_cons (ps_expr (C8.pe_c (cal_need_free_name T) hr (by decide) rfl (pa_cons (pv 0) (pa_cons (pv 1) pa_nil))))
      (pss_cons (ps_if (pt_not (pt_val (C8.pe_c (cal_is_begin T) hr (by decide) rfl (pa_cons (pv 0) (pa_cons (pv 2) pa_nil))))) (pss_one ps_never) pss_nil)
      (pss_cons (ps_if (pt_not (pt_val (C8.pe_c (cal_are_lengths T) hr (by decide) rfl (pa_cons (pv 3) (pa_cons (pv 4) pa_nil))))) (pss_one ps_never) pss_nil)
      (pss_cons (ps_if (pt_not (pt_val (C8.pe_c (cal_is_lateness T) hr (by decide) rfl (pa_cons (pv 5) pa_nil)))) (pss_one ps_never) pss_nil)
      (pss_cons (ps_if (pt_cmpR op_ge (pe_callB call_len_seq (by rfl) (z_len T) bb_len (pa_cons (pe_fld (pv 0) rfl) pa_nil)) (C8.pe_gc (by rfl) (c_MOST_SPANS T)) (nomark _)) (pss_one ps_never) pss_nil)
      (pss_cons (ps_set (i := 6) sc_Web_with_span.nd rfl (.inl rfl) (pe_tup (pa_cons (pv 1) (pa_cons (pv 2) (pa_cons (pv 3) (pa_cons (pv 4) (pa_cons (pv 5) pa_nil)))))))
      (pss_one (ps_ret (C8.pe_c (cal_woven T) hr (by decide) rfl (pa_cons (pe_fld (pv 0) rfl) (pa_cons (pe_fld (pv 0) rfl) (pa_cons (pe_tup (StX.pa_star (pe_fld (pv 0) rfl) (pa_cons (pv 6) pa_nil))) (pa_cons (pe_fld (pv 0) rfl) pa_nil))))))))))))), ?_⟩
    have hlen := W.len
    have few := S.few
    refine ⟨_, rfl, _, rfl, p, m, x.en, rfl, W, S.nm, S.fresh, fun H1 s1 => ?_⟩
    refine ⟨_, rfl, _, rfl, p, m, x.bg, rfl, W.same s1, S.bg, fun H2 s2 => ⟨_, rfl, iteF ?_⟩⟩
    have W2 := (W.same s1).same s2
    refine ⟨_, rfl, _, rfl, .int x.lo, .int x.hi, rfl, rfl, rfl, _, rfl, ?_⟩
    have eL : lenB (.int x.lo) (.int x.hi) = true := by
      show (decide (1 ≤ x.lo ∧ x.lo ≤ 1000) && decide (x.lo ≤ x.hi ∧ x.hi ≤ 1000)) = true
      rw [decide_eq_true ⟨S.lo, Int.le_trans S.hi S.top⟩, decide_eq_true ⟨S.hi, S.top⟩]
      rfl
    have eH : (plK (oV x.la)).isSome = true ∧ lateB (oV x.la) = true := by
      cases e : x.la with
      | none => exact ⟨rfl, rfl⟩
      | some i =>
        refine ⟨rfl, ?_⟩
        show (decide (V.int i = V.non) || decide (0 ≤ i ∧ i ≤ 1000)) = true
        rw [decide_eq_true (S.la i e), Bool.or_true]
    rw [eL]
    refine iteF ⟨_, rfl, oV x.la, rfl, eH.1, _, rfl, ?_⟩
    rw [eH.2]
    refine iteF ?_
    obtain ⟨dx, a, b, c, ws, bs, h1, h2, h3, h4, h5, h6⟩ := W2.ex
    have hw : ws.length = m.wd.length := by rw [h4.len, List.length_map]
    refine ⟨_, rfl, p, CW K, dx, _, _, rfl, h1, cl_Web T, na_span_rows T, wf_s, b, _, rfl, .inr (.inl (.inl h3)), _, _, rfl, rfl, _, rfl, ?_⟩
    rw [decide_eq_false (by rw [hw]; omega)]
    refine iteF ?_
    refine ⟨_, rfl, _, rfl, _, rfl, _, rfl, _, rfl, (by show 5 ≤ sizeLine; decide), fun t nt => ?_⟩
    have s3 := same_upd (o := .tup x.row) nt
    refine ⟨_, rfl, p, CW K, dx, _, _, rfl, s3 _ _ h1, cl_Web T, na_by T, wf_by, _, rfl, p, CW K, dx, _, _, rfl, s3 _ _ h1, cl_Web T, na_moment_rows T, wf_m, _, rfl, p, CW K, dx, _, _, rfl, s3 _ _ h1, cl_Web T, na_span_rows T, wf_s, b, _, rfl, .inl (.inl (.inl (s3 _ _ h3))), .ref t, rfl, ?_, fun u nu => ?_⟩
    · rw [List.length_append]
      exact Nat.le_of_lt (small1000 (by show _ + 1 ≤ 1000; omega))
    · have s4 := same_upd (o := .tup (ws ++ [.ref t])) nu
      have s5 := s3.trans s4
      refine ⟨_, rfl, p, CW K, dx, _, _, rfl, s5 _ _ h1, cl_Web T, na_tie_rows T, wf_t, ?_⟩
      have rw' : Rows (upd (upd H2 t (.tup x.row)) u (.tup (ws ++ [.ref t]))) (ws ++ [.ref t]) ((m.addS x).wd.map Wd.row) := by
        show Rows _ _ ((m.wd ++ [x]).map Wd.row)
        rw [List.map_append]
        exact (h4.keep (Kt.of s5)).snoc (s4 _ _ upd_same)
      refine ⟨m.addS x, a, u, c, ws ++ [V.ref t], bs, rfl, s5 _ _ h2, upd_same, rw', s5 _ _ h5, h6.keep (Kt.of s5), ⟨hlen.1, ?_, hlen.2.2⟩, W.last, fun y H5 s6 ny W5 => q y H5 (((s1.trans s2).trans s5).trans s6) (((s1.trans s2).trans s5).free ny) W5⟩
      show (m.wd ++ [x]).length ≤ 4
      rw [List.length_append]
      show _ + 1 ≤ 4
      omega
/-! ### with_tie -/
structure TiOk (m : Md) (x : Bd) : Prop where
  one : x.one ∈ m.pts
  oth : x.oth ∈ m.pts
  ne : ¬ x.one = x.oth
  b : BOk x.bot x.top
  few : m.bd.length < 40
def sp_with_tie (K : PySem.W.Frag) : Sp := fun vs H Q _ => ∃ (p : Addr) (m : Md) (x : Bd), vs = [.ref p, .str x.one, .str x.oth, oV x.bot, oV x.top] ∧ WebAt (CW K) H p m ∧ TiOk m x ∧ ∀ (q : Addr) (H' : Hp), Same H H' → H q = none → WebAt (CW K) H' q (m.addT x) → Q (.ref q) H'
theorem fno_Web_with_tie (T : Tp K mg) {fd : FuncData} (F : FunD K "with_tie" "Web.with_tie" (defArgs s_Web_with_tie) (defBody s_Web_with_tie) (defScope s_Web_with_tie) [] [("least", V.non), ("most", V.non)] (He.ma K (He.ga K "Web") "with_tie") fd) : FnOk P w K mg base CX0 6 (He.ma K (He.ga K "Web") "with_tie") fd ["self", "one", "other", "least", "most"] (sp_with_tie K) := by
  refine fnok_of (k := 5) F sc_Web_with_tie (fun vs H Q E h => ?_) (fun cdv A outer s H vs Q E hr h => ?_)
  · obtain ⟨p, m, x, rfl, _⟩ := h
    rfl
  · obtain ⟨p, m, x, rfl, W, S, q⟩ := h
    refine ⟨_, (pss_cons (ps_expr (C8.pe_c (cal_need_point T) hr (by decide) rfl (pa_cons (pv 0) (pa_cons (pv 1) pa_nil))))
      (pss_cons (ps_expr (C8.pe_c (cal_need_point T) hr (by decide) rfl (pa_cons (pv 0) (pa_cons (pv 2) pa_nil))))
      (pss_cons (ps_if (PW.pt (pw_or (pt_cmpR op_eq (pv 1) (pv 2) (nomark _)) (pw_or1 (pt_not (pt_val (C8.pe_c (cal_are_bounds T) hr (by decide) rfl (pa_cons (pv 3) (pa_cons (pv 4) pa_nil)))))))) (pss_one ps_never) pss_nil)
      (pss_cons (ps_if (pt_cmpR op_ge (pe_callB call_len_seq (by rfl) (z_len T) bb_len (pa_cons (pe_fld (pv 0) rfl) pa_nil)) (C8.pe_gc (by rfl) (c_MOST_TIES T)) (nomark _)) (pss_one ps_never) pss_nil)
      (pss_cons (ps_set (i := 5) sc_Web_with_tie.nd rfl (.inl rfl) (pe_tup (pa_cons (pv 1) (pa_cons (pv 2) (pa_cons (pv 3) (pa_cons (pv 4) pa_nil))))))
      (pss_one (ps_ret (C8.pe_c (cal_woven T) hr (by decide) rfl (pa_cons (pe_fld (pv 0) rfl) (pa_cons (pe_fld (pv 0) rfl) (pa_cons (pe_fld (pv 0) rfl) (pa_cons (pe_tup (StX.pa_star (pe_fld (pv 0) rfl) (pa_cons (pv 5) pa_nil))) pa_nil)))))))))))), ?_⟩
    have hlen := W.len
    have few := S.few
    refine ⟨_, rfl, _, rfl, p, m, x.one, rfl, W, S.one, fun H1 s1 => ?_⟩
    refine ⟨_, rfl, _, rfl, p, m, x.oth, rfl, W.same s1, S.oth, fun H2 s2 => ?_⟩
    have W2 := (W.same s1).same s2
    refine ⟨_, rfl, _, rfl, rfl, _, rfl, ?_⟩
    rw [decide_eq_false (show ¬ V.str x.one = V.str x.oth from fun e => S.ne (V.str.inj e))]
    refine iteF ⟨_, rfl, _, rfl, x.bot, x.top, rfl, S.b, fun H3 s3 => ⟨_, rfl, iteF ?_⟩⟩
    have W3 := W2.same s3
    obtain ⟨dx, a, b, c, ws, bs, h1, h2, h3, h4, h5, h6⟩ := W3.ex
    have hb : bs.length = m.bd.length := by rw [h6.len, List.length_map]
    refine ⟨_, rfl, p, CW K, dx, _, _, rfl, h1, cl_Web T, na_tie_rows T, wf_t, c, _, rfl, .inr (.inl (.inl h5)), _, _, rfl, rfl, _, rfl, ?_⟩
    rw [decide_eq_false (by rw [hb]; omega)]
    refine iteF ?_
    refine ⟨_, rfl, _, rfl, _, rfl, _, rfl, (by show 4 ≤ sizeLine; decide), fun t nt => ?_⟩
    have s4 := same_upd (o := .tup x.row) nt
    refine ⟨_, rfl, p, CW K, dx, _, _, rfl, s4 _ _ h1, cl_Web T, na_by T, wf_by, _, rfl, p, CW K, dx, _, _, rfl, s4 _ _ h1, cl_Web T, na_moment_rows T, wf_m, _, rfl, p, CW K, dx, _, _, rfl, s4 _ _ h1, cl_Web T, na_span_rows T, wf_s, _, rfl, p, CW K, dx, _, _, rfl, s4 _ _ h1, cl_Web T, na_tie_rows T, wf_t, c, _, rfl, .inl (.inl (.inl (s4 _ _ h5))), .ref t, rfl, ?_, fun u nu => ?_⟩
    · rw [List.length_append]
      exact Nat.le_of_lt (small1000 (by show _ + 1 ≤ 1000; omega))
    · have s5 := same_upd (o := .tup (bs ++ [.ref t])) nu
      have s6 := s4.trans s5
      have rb' : Rows (upd (upd H3 t (.tup x.row)) u (.tup (bs ++ [.ref t]))) (bs ++ [.ref t]) ((m.addT x).bd.map Bd.row) := by
        show Rows _ _ ((m.bd ++ [x]).map Bd.row)
        rw [List.map_append]
        exact (h6.keep (Kt.of s6)).snoc (s5 _ _ upd_same)
      have sa := ((s1.trans s2).trans s3).trans s6
      refine ⟨m.addT x, a, b, u, ws, bs ++ [V.ref t], rfl, s6 _ _ h2, s6 _ _ h3, h4.keep (Kt.of s6), upd_same, rb', ⟨hlen.1, hlen.2.1, ?_⟩, W.last, fun y H5 s7 ny W5 => q y H5 (sa.trans s7) (sa.free ny) W5⟩
      show (m.bd ++ [x]).length ≤ 40
      rw [List.length_append]
      show _ + 1 ≤ 40
      omega
theorem met_Web_with_tie (T : Tp K mg) : MetN P w K mg base 6 (CW K) "with_tie" (sp_with_tie K) 3 ["least", "most"] := by
  obtain ⟨fd, F⟩ := f_Web_with_tie T
  exact ⟨_, fd, ["self", "one", "other", "least", "most"], _, cl_Web T, me_Web_with_tie T, fno_Web_with_tie T F, kbn_of F fun kV doc pm an cdv ct us ws h1 h2 => match us, ws, h1, h2 with
    | [_, _, _], [_, _], _, _ => rfl⟩
end
end Tw

set_option maxHeartbeats 4000000
namespace Tw
open PySem PySem.Spec PyProof.Rows L2
section
variable {P : Program} {w : World} {K : PySem.W.Frag} {mg : Str → Option Value} {base : Heap}
theorem fn_TideError (T : Tp K mg) {fd : FuncData} (F : FunD K "__init__" "TideError.__init__" (defArgs s_TideError_UinitU) (defBody s_TideError_UinitU) (defScope s_TideError_UinitU) [V.str "TideError", V.str "refused"] [] (He.ma K (He.ga K "TideError") "__init__") fd) : FnOk P w K mg base CX0 2 (He.ma K (He.ga K "TideError") "__init__") fd ["self", "word", "why"] (sp_miss bVE K) := by
  refine fnok_of F sc_TideError_UinitU (fun vs H Q E h => ?_) (fun cdv A outer s H vs Q E hr h => ?_)
  · obtain ⟨a, C, u, y, rfl, _⟩ := h
    rfl
  · obtain ⟨a, C, u, y, rfl, O, nw, ha, lu, ly, q⟩ := h
    refine ⟨_, (pss_cons (ps_expr (pe_binit bVE_ok bb_ValueError rfl (z_ValueError T) (vi_ValueError T) rfl (pa_cons (pv 0) (pa_cons (pe_joined (.cons (pe_fmt (pv 1)) (.cons pe_str (.cons (pe_fmt (pv 2)) .nil)))) pa_nil))))
      (pss_one (ps_ox (b := bVE) (pv 0) (pv 1)))), ?_⟩
    have l1 : (Str.empty ++ u).length ≤ 0 + 100 := app_le (show Str.empty.length ≤ 0 by decide) lu
    have l2 := app_le l1 (show (": " : Str).length ≤ 2 by decide +kernel)
    have l3 := app_le l2 ly
    refine ⟨_, rfl, _, rfl, .inl ⟨u, rfl, short (show u.length ≤ 100 from lu) (by decide), u, rfl, short l1 (by decide), _, rfl, short l2 (by decide), _, rfl, .inl ⟨y, rfl, short (show y.length ≤ 100 from ly) (by decide), y, rfl, short l3 (by decide), ?_⟩⟩⟩
    refine ⟨a, C, _, rfl, by show 1 ≤ 1000; decide, O, ha, ?_⟩
    exact ⟨_, rfl, _, rfl, a, C, rfl, O, nw, .inl ⟨ha, q⟩⟩
theorem b_TideError {fd : FuncData} (F : FunD K "__init__" "TideError.__init__" (defArgs s_TideError_UinitU) (defBody s_TideError_UinitU) (defScope s_TideError_UinitU) [V.str "TideError", V.str "refused"] [] (He.ma K (He.ga K "TideError") "__init__") fd) : Binds K fd ["self", "word", "why"] [] := by
  obtain ⟨ds, hv, hb⟩ := F.binds1 (ps := ["self", "word", "why"]) 3 2 (by simp) rfl fun T kV doc pm an cdv ct us its h1 h2 => match us, its, h1, h2 with
    | [_, _, _], [_, _], _, _ => ⟨_, rfl, rfl⟩
  have hv : Vals [] ds := hv
  cases hv
  exact hb
theorem fn_Missing (T : Tp K mg) {fd : FuncData} (F : FunD K "__init__" "Missing.__init__" (defArgs s_Missing_UinitU) (defBody s_Missing_UinitU) (defScope s_Missing_UinitU) [V.str "Missing", V.str "refused"] [] (He.ma K (He.ga K "Missing") "__init__") fd) : FnOk P w K mg base CX0 2 (He.ma K (He.ga K "Missing") "__init__") fd ["self", "word", "why"] (sp_miss bLE K) := by
  refine fnok_of F sc_Missing_UinitU (fun vs H Q E h => ?_) (fun cdv A outer s H vs Q E hr h => ?_)
  · obtain ⟨a, C, u, y, rfl, _⟩ := h
    rfl
  · obtain ⟨a, C, u, y, rfl, O, nw, ha, lu, ly, q⟩ := h
    refine ⟨_, (pss_cons (ps_expr (pe_binit bLE_ok bb_LookupError rfl (z_LookupError T) (vi_LookupError T) rfl (pa_cons (pv 0) (pa_cons (pe_joined (.cons (pe_fmt (pv 1)) (.cons pe_str (.cons (pe_fmt (pv 2)) .nil)))) pa_nil))))
      (pss_one (ps_ox (b := bLE) (pv 0) (pv 1)))), ?_⟩
    have l1 : (Str.empty ++ u).length ≤ 0 + 100 := app_le (show Str.empty.length ≤ 0 by decide) lu
    have l2 := app_le l1 (show (": " : Str).length ≤ 2 by decide +kernel)
    have l3 := app_le l2 ly
    refine ⟨_, rfl, _, rfl, .inl ⟨u, rfl, short (show u.length ≤ 100 from lu) (by decide), u, rfl, short l1 (by decide), _, rfl, short l2 (by decide), _, rfl, .inl ⟨y, rfl, short (show y.length ≤ 100 from ly) (by decide), y, rfl, short l3 (by decide), ?_⟩⟩⟩
    refine ⟨a, C, _, rfl, by show 1 ≤ 1000; decide, O, ha, ?_⟩
    exact ⟨_, rfl, _, rfl, a, C, rfl, O, nw, .inl ⟨ha, q⟩⟩
theorem b_Missing {fd : FuncData} (F : FunD K "__init__" "Missing.__init__" (defArgs s_Missing_UinitU) (defBody s_Missing_UinitU) (defScope s_Missing_UinitU) [V.str "Missing", V.str "refused"] [] (He.ma K (He.ga K "Missing") "__init__") fd) : Binds K fd ["self", "word", "why"] [] := by
  obtain ⟨ds, hv, hb⟩ := F.binds1 (ps := ["self", "word", "why"]) 3 2 (by simp) rfl fun T kV doc pm an cdv ct us its h1 h2 => match us, its, h1, h2 with
    | [_, _, _], [_, _], _, _ => ⟨_, rfl, rfl⟩
  have hv : Vals [] ds := hv
  cases hv
  exact hb
theorem mkx_BadBy (T : Tp K mg) : MkB bVE P w K mg base 3 "BadBy" (He.ga K "BadBy") (sp_exc1 K (He.ga K "BadBy") "BadBy" "by") := by
  obtain ⟨fd, F⟩ := f_BadBy_UinitU T
  obtain ⟨fdT, FT⟩ := f_TideError_UinitU T
  have F1 := fn_TideError (P := P) (w := w) (base := base) T FT
  have kp := FT.kp
  have b1 := b_TideError FT
  refine ⟨_, fd, ["self", "by"], oe_BadBy T, in_BadBy T, fnok_of F sc_BadBy_UinitU (fun vs H Q E h => ?_) (fun cdv A outer s H vs Q E hr h => ?_), g_BadBy T, b_BadBy_UinitU F⟩
  · obtain ⟨a, v, rfl, _⟩ := h
    rfl
  · obtain ⟨a, v, rfl, ha, q⟩ := h
    refine ⟨_, (pss_cons (ps_expr (pe_ci (cd_TideError T) rfl (g_TideError T) kp F1 hr (by decide) b1 (pa_cons (pv 0) (pa_cons pe_str (pa_cons pe_str pa_nil)))))
      (pss_one (ps_ox (b := bVE) (pv 0) (pv 1)))), ?_⟩
    refine ⟨_, rfl, a, He.ga K "BadBy", _, _, rfl, oe_BadBy T, nf_BadBy_word T, ha, by decide +kernel, by decide +kernel, fun d nd da => ?_⟩
    refine ⟨_, rfl, _, rfl, a, He.ga K "BadBy", rfl, oe_BadBy T, nf_BadBy_by T, .inr ⟨d, _, upd_same, by rw [upd_ne da]; exact upd_same, by show 1 ≤ 900; decide, ?_⟩⟩
    refine q d _ nd da (fun b h1 h2 => ?_) ?_ upd_same
    · rw [upd_ne h2, upd_ne h1, upd_ne h2]
    · rw [upd_ne (Ne.symm da)]
      exact upd_same
theorem mkx_BadName (T : Tp K mg) : MkB bVE P w K mg base 3 "BadName" (He.ga K "BadName") (sp_exc1 K (He.ga K "BadName") "BadName" "name") := by
  obtain ⟨fd, F⟩ := f_BadName_UinitU T
  obtain ⟨fdT, FT⟩ := f_TideError_UinitU T
  have F1 := fn_TideError (P := P) (w := w) (base := base) T FT
  have kp := FT.kp
  have b1 := b_TideError FT
  refine ⟨_, fd, ["self", "name"], oe_BadName T, in_BadName T, fnok_of F sc_BadName_UinitU (fun vs H Q E h => ?_) (fun cdv A outer s H vs Q E hr h => ?_), g_BadName T, b_BadName_UinitU F⟩
  · obtain ⟨a, v, rfl, _⟩ := h
    rfl
  · obtain ⟨a, v, rfl, ha, q⟩ := h
    refine ⟨_, (pss_cons (ps_expr (pe_ci (cd_TideError T) rfl (g_TideError T) kp F1 hr (by decide) b1 (pa_cons (pv 0) (pa_cons pe_str (pa_cons pe_str pa_nil)))))
      (pss_one (ps_ox (b := bVE) (pv 0) (pv 1)))), ?_⟩
    refine ⟨_, rfl, a, He.ga K "BadName", _, _, rfl, oe_BadName T, nf_BadName_word T, ha, by decide +kernel, by decide +kernel, fun d nd da => ?_⟩
    refine ⟨_, rfl, _, rfl, a, He.ga K "BadName", rfl, oe_BadName T, nf_BadName_name T, .inr ⟨d, _, upd_same, by rw [upd_ne da]; exact upd_same, by show 1 ≤ 900; decide, ?_⟩⟩
    refine q d _ nd da (fun b h1 h2 => ?_) ?_ upd_same
    · rw [upd_ne h2, upd_ne h1, upd_ne h2]
    · rw [upd_ne (Ne.symm da)]
      exact upd_same
theorem mkx_Taken (T : Tp K mg) : MkB bVE P w K mg base 3 "Taken" (He.ga K "Taken") (sp_exc1 K (He.ga K "Taken") "Taken" "name") := by
  obtain ⟨fd, F⟩ := f_Taken_UinitU T
  obtain ⟨fdT, FT⟩ := f_TideError_UinitU T
  have F1 := fn_TideError (P := P) (w := w) (base := base) T FT
  have kp := FT.kp
  have b1 := b_TideError FT
  refine ⟨_, fd, ["self", "name"], oe_Taken T, in_Taken T, fnok_of F sc_Taken_UinitU (fun vs H Q E h => ?_) (fun cdv A outer s H vs Q E hr h => ?_), g_Taken T, b_Taken_UinitU F⟩
  · obtain ⟨a, v, rfl, _⟩ := h
    rfl
  · obtain ⟨a, v, rfl, ha, q⟩ := h
    refine ⟨_, (pss_cons (ps_expr (pe_ci (cd_TideError T) rfl (g_TideError T) kp F1 hr (by decide) b1 (pa_cons (pv 0) (pa_cons pe_str (pa_cons pe_str pa_nil)))))
      (pss_one (ps_ox (b := bVE) (pv 0) (pv 1)))), ?_⟩
    refine ⟨_, rfl, a, He.ga K "Taken", _, _, rfl, oe_Taken T, nf_Taken_word T, ha, by decide +kernel, by decide +kernel, fun d nd da => ?_⟩
    refine ⟨_, rfl, _, rfl, a, He.ga K "Taken", rfl, oe_Taken T, nf_Taken_name T, .inr ⟨d, _, upd_same, by rw [upd_ne da]; exact upd_same, by show 1 ≤ 900; decide, ?_⟩⟩
    refine q d _ nd da (fun b h1 h2 => ?_) ?_ upd_same
    · rw [upd_ne h2, upd_ne h1, upd_ne h2]
    · rw [upd_ne (Ne.symm da)]
      exact upd_same
theorem mkx_Full (T : Tp K mg) : MkB bVE P w K mg base 3 "Full" (He.ga K "Full") (sp_exc1 K (He.ga K "Full") "Full" "most") := by
  obtain ⟨fd, F⟩ := f_Full_UinitU T
  obtain ⟨fdT, FT⟩ := f_TideError_UinitU T
  have F1 := fn_TideError (P := P) (w := w) (base := base) T FT
  have kp := FT.kp
  have b1 := b_TideError FT
  refine ⟨_, fd, ["self", "most"], oe_Full T, in_Full T, fnok_of F sc_Full_UinitU (fun vs H Q E h => ?_) (fun cdv A outer s H vs Q E hr h => ?_), g_Full T, b_Full_UinitU F⟩
  · obtain ⟨a, v, rfl, _⟩ := h
    rfl
  · obtain ⟨a, v, rfl, ha, q⟩ := h
    refine ⟨_, (pss_cons (ps_expr (pe_ci (cd_TideError T) rfl (g_TideError T) kp F1 hr (by decide) b1 (pa_cons (pv 0) (pa_cons pe_str (pa_cons pe_str pa_nil)))))
      (pss_one (ps_ox (b := bVE) (pv 0) (pv 1)))), ?_⟩
    refine ⟨_, rfl, a, He.ga K "Full", _, _, rfl, oe_Full T, nf_Full_word T, ha, by decide +kernel, by decide +kernel, fun d nd da => ?_⟩
    refine ⟨_, rfl, _, rfl, a, He.ga K "Full", rfl, oe_Full T, nf_Full_most T, .inr ⟨d, _, upd_same, by rw [upd_ne da]; exact upd_same, by show 1 ≤ 900; decide, ?_⟩⟩
    refine q d _ nd da (fun b h1 h2 => ?_) ?_ upd_same
    · rw [upd_ne h2, upd_ne h1, upd_ne h2]
    · rw [upd_ne (Ne.symm da)]
      exact upd_same
theorem mkx_BadLength (T : Tp K mg) : MkB bVE P w K mg base 3 "BadLength" (He.ga K "BadLength") (sp_exc2 K (He.ga K "BadLength") "BadLength" "low" "high") := by
  obtain ⟨fd, F⟩ := f_BadLength_UinitU T
  obtain ⟨fdT, FT⟩ := f_TideError_UinitU T
  have F1 := fn_TideError (P := P) (w := w) (base := base) T FT
  have kp := FT.kp
  have b1 := b_TideError FT
  refine ⟨_, fd, ["self", "low", "high"], oe_BadLength T, in_BadLength T, fnok_of F sc_BadLength_UinitU (fun vs H Q E h => ?_) (fun cdv A outer s H vs Q E hr h => ?_), g_BadLength T, b_BadLength_UinitU F⟩
  · obtain ⟨a, v, u, rfl, _⟩ := h
    rfl
  · obtain ⟨a, v, u, rfl, ha, q⟩ := h
    refine ⟨_, (pss_cons (ps_expr (pe_ci (cd_TideError T) rfl (g_TideError T) kp F1 hr (by decide) b1 (pa_cons (pv 0) (pa_cons pe_str (pa_cons pe_str pa_nil)))))
      (pss_cons (ps_ox (b := bVE) (pv 0) (pv 1))
      (pss_one (ps_ox (b := bVE) (pv 0) (pv 2))))), ?_⟩
    refine ⟨_, rfl, a, He.ga K "BadLength", _, _, rfl, oe_BadLength T, nf_BadLength_word T, ha, by decide +kernel, by decide +kernel, fun d nd da => ?_⟩
    refine ⟨_, rfl, _, rfl, a, He.ga K "BadLength", rfl, oe_BadLength T, nf_BadLength_low T, .inr ⟨d, _, upd_same, by rw [upd_ne da]; exact upd_same, by show 1 ≤ 900; decide, ?_⟩⟩
    refine ⟨_, rfl, _, rfl, a, He.ga K "BadLength", rfl, oe_BadLength T, nf_BadLength_high T, .inr ⟨d, _, by rw [upd_ne (Ne.symm da)]; exact upd_same, upd_same, by show 2 ≤ 900; decide, ?_⟩⟩
    refine q d _ nd da (fun b h1 h2 => ?_) ?_ upd_same
    · rw [upd_ne h2, upd_ne h2, upd_ne h1, upd_ne h2]
    · rw [upd_ne (Ne.symm da), upd_ne (Ne.symm da)]
      exact upd_same
theorem mkx_BadLate (T : Tp K mg) : MkB bVE P w K mg base 3 "BadLate" (He.ga K "BadLate") (sp_exc1 K (He.ga K "BadLate") "BadLate" "late") := by
  obtain ⟨fd, F⟩ := f_BadLate_UinitU T
  obtain ⟨fdT, FT⟩ := f_TideError_UinitU T
  have F1 := fn_TideError (P := P) (w := w) (base := base) T FT
  have kp := FT.kp
  have b1 := b_TideError FT
  refine ⟨_, fd, ["self", "late"], oe_BadLate T, in_BadLate T, fnok_of F sc_BadLate_UinitU (fun vs H Q E h => ?_) (fun cdv A outer s H vs Q E hr h => ?_), g_BadLate T, b_BadLate_UinitU F⟩
  · obtain ⟨a, v, rfl, _⟩ := h
    rfl
  · obtain ⟨a, v, rfl, ha, q⟩ := h
    refine ⟨_, (pss_cons (ps_expr (pe_ci (cd_TideError T) rfl (g_TideError T) kp F1 hr (by decide) b1 (pa_cons (pv 0) (pa_cons pe_str (pa_cons pe_str pa_nil)))))
      (pss_one (ps_ox (b := bVE) (pv 0) (pv 1)))), ?_⟩
    refine ⟨_, rfl, a, He.ga K "BadLate", _, _, rfl, oe_BadLate T, nf_BadLate_word T, ha, by decide +kernel, by decide +kernel, fun d nd da => ?_⟩
    refine ⟨_, rfl, _, rfl, a, He.ga K "BadLate", rfl, oe_BadLate T, nf_BadLate_late T, .inr ⟨d, _, upd_same, by rw [upd_ne da]; exact upd_same, by show 1 ≤ 900; decide, ?_⟩⟩
    refine q d _ nd da (fun b h1 h2 => ?_) ?_ upd_same
    · rw [upd_ne h2, upd_ne h1, upd_ne h2]
    · rw [upd_ne (Ne.symm da)]
      exact upd_same
theorem mkx_BadTie (T : Tp K mg) : MkB bVE P w K mg base 3 "BadTie" (He.ga K "BadTie") (sp_exc2 K (He.ga K "BadTie") "BadTie" "least" "most") := by
  obtain ⟨fd, F⟩ := f_BadTie_UinitU T
  obtain ⟨fdT, FT⟩ := f_TideError_UinitU T
  have F1 := fn_TideError (P := P) (w := w) (base := base) T FT
  have kp := FT.kp
  have b1 := b_TideError FT
  refine ⟨_, fd, ["self", "least", "most"], oe_BadTie T, in_BadTie T, fnok_of F sc_BadTie_UinitU (fun vs H Q E h => ?_) (fun cdv A outer s H vs Q E hr h => ?_), g_BadTie T, b_BadTie_UinitU F⟩
  · obtain ⟨a, v, u, rfl, _⟩ := h
    rfl
  · obtain ⟨a, v, u, rfl, ha, q⟩ := h
    refine ⟨_, (pss_cons (ps_expr (pe_ci (cd_TideError T) rfl (g_TideError T) kp F1 hr (by decide) b1 (pa_cons (pv 0) (pa_cons pe_str (pa_cons pe_str pa_nil)))))
      (pss_cons (ps_ox (b := bVE) (pv 0) (pv 1))
      (pss_one (ps_ox (b := bVE) (pv 0) (pv 2))))), ?_⟩
    refine ⟨_, rfl, a, He.ga K "BadTie", _, _, rfl, oe_BadTie T, nf_BadTie_word T, ha, by decide +kernel, by decide +kernel, fun d nd da => ?_⟩
    refine ⟨_, rfl, _, rfl, a, He.ga K "BadTie", rfl, oe_BadTie T, nf_BadTie_least T, .inr ⟨d, _, upd_same, by rw [upd_ne da]; exact upd_same, by show 1 ≤ 900; decide, ?_⟩⟩
    refine ⟨_, rfl, _, rfl, a, He.ga K "BadTie", rfl, oe_BadTie T, nf_BadTie_most T, .inr ⟨d, _, by rw [upd_ne (Ne.symm da)]; exact upd_same, upd_same, by show 2 ≤ 900; decide, ?_⟩⟩
    refine q d _ nd da (fun b h1 h2 => ?_) ?_ upd_same
    · rw [upd_ne h2, upd_ne h2, upd_ne h1, upd_ne h2]
    · rw [upd_ne (Ne.symm da), upd_ne (Ne.symm da)]
      exact upd_same
theorem mkx_Used (T : Tp K mg) : MkB bVE P w K mg base 3 "Used" (He.ga K "Used") (sp_exc1 K (He.ga K "Used") "Used" "name") := by
  obtain ⟨fd, F⟩ := f_Used_UinitU T
  obtain ⟨fdT, FT⟩ := f_TideError_UinitU T
  have F1 := fn_TideError (P := P) (w := w) (base := base) T FT
  have kp := FT.kp
  have b1 := b_TideError FT
  refine ⟨_, fd, ["self", "name"], oe_Used T, in_Used T, fnok_of F sc_Used_UinitU (fun vs H Q E h => ?_) (fun cdv A outer s H vs Q E hr h => ?_), g_Used T, b_Used_UinitU F⟩
  · obtain ⟨a, v, rfl, _⟩ := h
    rfl
  · obtain ⟨a, v, rfl, ha, q⟩ := h
    refine ⟨_, (pss_cons (ps_expr (pe_ci (cd_TideError T) rfl (g_TideError T) kp F1 hr (by decide) b1 (pa_cons (pv 0) (pa_cons pe_str (pa_cons pe_str pa_nil)))))
      (pss_one (ps_ox (b := bVE) (pv 0) (pv 1)))), ?_⟩
    refine ⟨_, rfl, a, He.ga K "Used", _, _, rfl, oe_Used T, nf_Used_word T, ha, by decide +kernel, by decide +kernel, fun d nd da => ?_⟩
    refine ⟨_, rfl, _, rfl, a, He.ga K "Used", rfl, oe_Used T, nf_Used_name T, .inr ⟨d, _, upd_same, by rw [upd_ne da]; exact upd_same, by show 1 ≤ 900; decide, ?_⟩⟩
    refine q d _ nd da (fun b h1 h2 => ?_) ?_ upd_same
    · rw [upd_ne h2, upd_ne h1, upd_ne h2]
    · rw [upd_ne (Ne.symm da)]
      exact upd_same
theorem mkx_NoMoment (T : Tp K mg) : MkB bLE P w K mg base 3 "NoMoment" (He.ga K "NoMoment") (sp_exc1 K (He.ga K "NoMoment") "NoMoment" "name") := by
  obtain ⟨fd, F⟩ := f_NoMoment_UinitU T
  obtain ⟨fdT, FT⟩ := f_Missing_UinitU T
  have F1 := fn_Missing (P := P) (w := w) (base := base) T FT
  have kp := FT.kp
  have b1 := b_Missing FT
  refine ⟨_, fd, ["self", "name"], oe_NoMoment T, in_NoMoment T, fnok_of F sc_NoMoment_UinitU (fun vs H Q E h => ?_) (fun cdv A outer s H vs Q E hr h => ?_), g_NoMoment T, b_NoMoment_UinitU F⟩
  · obtain ⟨a, v, rfl, _⟩ := h
    rfl
  · obtain ⟨a, v, rfl, ha, q⟩ := h
    refine ⟨_, (pss_cons (ps_expr (pe_ci (cd_Missing T) rfl (g_Missing T) kp F1 hr (by decide) b1 (pa_cons (pv 0) (pa_cons pe_str (pa_cons pe_str pa_nil)))))
      (pss_one (ps_ox (b := bLE) (pv 0) (pv 1)))), ?_⟩
    refine ⟨_, rfl, a, He.ga K "NoMoment", _, _, rfl, oe_NoMoment T, nf_NoMoment_word T, ha, by decide +kernel, by decide +kernel, fun d nd da => ?_⟩
    refine ⟨_, rfl, _, rfl, a, He.ga K "NoMoment", rfl, oe_NoMoment T, nf_NoMoment_name T, .inr ⟨d, _, upd_same, by rw [upd_ne da]; exact upd_same, by show 1 ≤ 900; decide, ?_⟩⟩
    refine q d _ nd da (fun b h1 h2 => ?_) ?_ upd_same
    · rw [upd_ne h2, upd_ne h1, upd_ne h2]
    · rw [upd_ne (Ne.symm da)]
      exact upd_same
theorem mkx_NoPoint (T : Tp K mg) : MkB bLE P w K mg base 3 "NoPoint" (He.ga K "NoPoint") (sp_exc1 K (He.ga K "NoPoint") "NoPoint" "name") := by
  obtain ⟨fd, F⟩ := f_NoPoint_UinitU T
  obtain ⟨fdT, FT⟩ := f_Missing_UinitU T
  have F1 := fn_Missing (P := P) (w := w) (base := base) T FT
  have kp := FT.kp
  have b1 := b_Missing FT
  refine ⟨_, fd, ["self", "name"], oe_NoPoint T, in_NoPoint T, fnok_of F sc_NoPoint_UinitU (fun vs H Q E h => ?_) (fun cdv A outer s H vs Q E hr h => ?_), g_NoPoint T, b_NoPoint_UinitU F⟩
  · obtain ⟨a, v, rfl, _⟩ := h
    rfl
  · obtain ⟨a, v, rfl, ha, q⟩ := h
    refine ⟨_, (pss_cons (ps_expr (pe_ci (cd_Missing T) rfl (g_Missing T) kp F1 hr (by decide) b1 (pa_cons (pv 0) (pa_cons pe_str (pa_cons pe_str pa_nil)))))
      (pss_one (ps_ox (b := bLE) (pv 0) (pv 1)))), ?_⟩
    refine ⟨_, rfl, a, He.ga K "NoPoint", _, _, rfl, oe_NoPoint T, nf_NoPoint_word T, ha, by decide +kernel, by decide +kernel, fun d nd da => ?_⟩
    refine ⟨_, rfl, _, rfl, a, He.ga K "NoPoint", rfl, oe_NoPoint T, nf_NoPoint_name T, .inr ⟨d, _, upd_same, by rw [upd_ne da]; exact upd_same, by show 1 ≤ 900; decide, ?_⟩⟩
    refine q d _ nd da (fun b h1 h2 => ?_) ?_ upd_same
    · rw [upd_ne h2, upd_ne h1, upd_ne h2]
    · rw [upd_ne (Ne.symm da)]
      exact upd_same
theorem mkx_NoTie (T : Tp K mg) : MkB bLE P w K mg base 3 "NoTie" (He.ga K "NoTie") (sp_exc1 K (He.ga K "NoTie") "NoTie" "at") := by
  obtain ⟨fd, F⟩ := f_NoTie_UinitU T
  obtain ⟨fdT, FT⟩ := f_Missing_UinitU T
  have F1 := fn_Missing (P := P) (w := w) (base := base) T FT
  have kp := FT.kp
  have b1 := b_Missing FT
  refine ⟨_, fd, ["self", "at"], oe_NoTie T, in_NoTie T, fnok_of F sc_NoTie_UinitU (fun vs H Q E h => ?_) (fun cdv A outer s H vs Q E hr h => ?_), g_NoTie T, b_NoTie_UinitU F⟩
  · obtain ⟨a, v, rfl, _⟩ := h
    rfl
  · obtain ⟨a, v, rfl, ha, q⟩ := h
    refine ⟨_, (pss_cons (ps_expr (pe_ci (cd_Missing T) rfl (g_Missing T) kp F1 hr (by decide) b1 (pa_cons (pv 0) (pa_cons pe_str (pa_cons pe_str pa_nil)))))
      (pss_one (ps_ox (b := bLE) (pv 0) (pv 1)))), ?_⟩
    refine ⟨_, rfl, a, He.ga K "NoTie", _, _, rfl, oe_NoTie T, nf_NoTie_word T, ha, by decide +kernel, by decide +kernel, fun d nd da => ?_⟩
    refine ⟨_, rfl, _, rfl, a, He.ga K "NoTie", rfl, oe_NoTie T, nf_NoTie_at T, .inr ⟨d, _, upd_same, by rw [upd_ne da]; exact upd_same, by show 1 ≤ 900; decide, ?_⟩⟩
    refine q d _ nd da (fun b h1 h2 => ?_) ?_ upd_same
    · rw [upd_ne h2, upd_ne h1, upd_ne h2]
    · rw [upd_ne (Ne.symm da)]
      exact upd_same
end
end Tw

set_option maxHeartbeats 4000000
namespace Tw
open PySem PySem.Spec PyProof.Rows L2
def inL (c : Nat) : Bool := decide (c ∈ letters.cps.toList)
def nmB (z : Str) : Bool := decide (1 ≤ z.length) && (decide (z.length ≤ 8) && z.cps.toList.all inL)
theorem nmB_ok {z : Str} : nmB z = true ↔ Nm z := by
  unfold nmB Nm inL
  simp only [Bool.and_eq_true, decide_eq_true_eq, List.all_eq_true]
end Tw

set_option maxHeartbeats 4000000
namespace Tw
open PySem PySem.Spec PyProof.Rows L2
section
variable {P : Program} {w : World} {K : PySem.W.Frag} {mg : Str → Option Value} {base : Heap}
def sp_isnm : Sp := fun vs H Q _ => ∃ z : Str, vs = [.str z] ∧ z.length ≤ 1000 ∧ ∀ H', Same H H' → Q (.bl (nmB z)) H'
theorem cal_isnm (T : Tp K mg) : Cal P w K mg base 2 "is_name" sp_isnm := by
  obtain ⟨fd, F⟩ := f_is_name T
  refine cal_of F (g_is_name T) (b_is_name F) sc_is_name (fun vs H Q E h => ?_) (fun cdv A outer s H vs Q E hr h => ?_)
  · obtain ⟨z, rfl, _⟩ := h
    rfl
  · obtain ⟨z, rfl, hz, q⟩ := h
    refine ⟨_, (pss_cons (ps_if (PW.pt (pw_or (pt_not (pt_val (pe_callB call_isK (by rfl) (z_isinstance T) bb_isinstance (pa_cons (pv 0) (pa_cons (pe_bltn (v := .ty "str") (by rfl) (z_str T) bb_str rfl) pa_nil))))) (pw_or1 (pt_not (pt_chain op_le op_le pe_int (pe_callB call_len_str (by rfl) (z_len T) bb_len (pa_cons (pv 0) pa_nil)) (C8.pe_gc (by rfl) (c_LONGEST_NAME T))))))) (pss_one (ps_ret pe_bl)) pss_nil)
      (pss_one (ps_ret (pe_callB (cr_all rfl) (by rfl) (z_all T) bb_all (pa_cons (pe_lc (own := [("letter", 1)]) (g := gName 1) (tt := tYes) rfl sc_is_name.nd (pi_str (pv 0)) (blkOk_by (N := N_is_name) (sc := defScope s_is_name) (by decide +kernel)) (fun _ _ _ _ _ => (pg_name (i := 1) sc_is_name.nd rfl (.inl rfl))) (fun _ _ _ _ _ => pts_nil) (fun _ _ _ _ _ => (pe_cmpR op_in_sign (pv 1) (C8.pe_gc (by rfl) (c_LETTERS T)) (by rfl)))) pa_nil))))), ?_⟩
    refine ⟨_, rfl, _, "str", "str", rfl, .base (.str _), by decide, by decide, _, rfl, ?_⟩
    refine iteF ⟨_, rfl, _, rfl, Nat.le_of_lt (small1000 hz), _, _, rfl, rfl, _, rfl, ?_⟩
    by_cases h1 : 1 ≤ z.length
    · rw [decide_eq_true (show (1 : Int) ≤ (z.length : Int) by omega)]
      refine iteT ⟨_, _, rfl, rfl, _, rfl, ?_⟩
      by_cases h2 : z.length ≤ 8
      · rw [decide_eq_true (show (z.length : Int) ≤ 8 by omega)]
        refine iteF ?_
        refine ⟨_, rfl, _, rfl, fun D nD => ?_⟩
        refine lc_it walk_str (fun i H1 => Same H H1 ∧ H1 D = some (.lst (((z.cps.toList.take i).map inL).map V.bl))) ⟨same_upd nD, upd_same⟩ (fun _ _ _ _ => trivial) ?_ ?_
        · rintro i x H1 H2 hi ⟨s1, d1⟩ ⟨rfl, c, hc, rfl⟩
          refine ⟨rfl, yes_i (iteT ⟨_, rfl, c, letters, rfl, rfl, ?_⟩)⟩
          have hc' : z.cps.toList[i]? = some c := by
            rw [Array.getElem?_toList]
            exact hc
          refine ⟨_, d1, ?_, ?_, ?_⟩
          · rw [List.length_map, List.length_map, List.length_take]
            have : z.cps.toList.length = z.length := Array.length_toList
            exact small1000 (by omega)
          · exact same_put s1 nD
          · rw [upd_same, List.take_add_one, hc', List.map_append, List.map_append]
            rfl
        · rintro H1 ⟨s1, d1⟩
          refine ⟨D, _, rfl, .inl (.inl d1), ?_⟩
          have e0 : z.cps.toList.take z.cps.size = z.cps.toList := List.take_of_length_le (by rw [Array.length_toList]; exact Nat.le_refl _)
          rw [e0, List.all_map]
          have q := q H1 s1
          unfold nmB at q
          rw [decide_eq_true h1, decide_eq_true h2, Bool.true_and, Bool.true_and] at q
          exact q
      · rw [decide_eq_false (show ¬ (z.length : Int) ≤ 8 by omega)]
        have q := q H (Same.refl H)
        unfold nmB at q
        rw [decide_eq_false h2, Bool.false_and, Bool.and_false] at q
        exact iteT q
    · rw [decide_eq_false (show ¬ (1 : Int) ≤ (z.length : Int) by omega)]
      have q := q H (Same.refl H)
      unfold nmB at q
      rw [decide_eq_false h1, Bool.false_and] at q
      exact iteF ⟨_, rfl, iteT q⟩
/-! ### need_free_name, with_moment, what they refuse told -/
def sp_nfX (K : PySem.W.Frag) : Sp := fun vs H Q E => ∃ (p : Addr) (m : Md) (z : Str), vs = [.ref p, .str z] ∧ WebAt (CW K) H p m ∧ z.length ≤ 1000 ∧ (¬ Nm z → Out H E (He.ga K "BadName") "BadName" "name" (.str z)) ∧ (Nm z → z ∈ m.pts → Out H E (He.ga K "Taken") "Taken" "name" (.str z)) ∧
  (Nm z → ¬ z ∈ m.pts → ∀ H', Same H H' → Q .non H')
theorem calx_need_free_name (T : Tp K mg) : CalX P w K mg base 5 "need_free_name" (sp_nfX K) := by
  obtain ⟨fd, F⟩ := f_need_free_name T
  refine calx_of F (g_need_free_name T) (b_need_free_name F) sc_need_free_name (fun vs H Q E h => ?_) (fun cdv A outer s H vs Q E hr h tk => ?_)
  · obtain ⟨p, m, z, rfl, _⟩ := h
    rfl
  · obtain ⟨p, m, z, rfl, W, hl, o1, o2, q⟩ := h
    refine ⟨_, (pss_cons (ps_if (pt_not (pt_val (C8.pe_c (cal_isnm T) hr (by decide) rfl (pa_cons (pv 1) pa_nil)))) (pss_one (ps_raise rfl tk (pmk_b (mkx_BadName T) hr (by decide) rfl (pa_cons (pv 1) pa_nil)))) pss_nil)
      (pss_one (ps_if (pt_cmpR op_in_seq (pv 1) (C8.pe_mt0 (met_Web_points T) hr (by decide) (pv 0)) (by rfl)) (pss_one (ps_raise rfl tk (pmk_b (mkx_Taken T) hr (by decide) rfl (pa_cons (pv 1) pa_nil)))) pss_nil))), ?_⟩
    refine ⟨_, rfl, z, rfl, hl, fun H1 s1 => ⟨_, rfl, ?_⟩⟩
    cases hn : nmB z with
    | false =>
      have nn : ¬ Nm z := fun h => by
        rw [nmB_ok.mpr h] at hn
        cases hn
      exact iteT ⟨_, rfl, mk_out ((o1 nn).same s1)⟩
    | true =>
      have hn := nmB_ok.mp hn
      refine iteF ?_
      have W1 := W.same s1
      obtain ⟨dx, a, b, c, ws, bs, h1, _⟩ := W1.ex
      refine ⟨_, rfl, _, rfl, p, dx, _, rfl, h1, wf_no (by decide +kernel), p, m, rfl, W1, fun k H2 s2 nk ek => ?_⟩
      refine ⟨k, _, rfl, .inl (.inl (.inl ek)), rfl, flat_strs _, _, rfl, ?_⟩
      show if inV (.str z) (m.pts.map V.str) = true then _ else _
      rw [in_strs]
      by_cases hz : z ∈ m.pts
      · rw [decide_eq_true hz]
        exact iteT ⟨_, rfl, mk_out ((o2 hn hz).same (s1.trans s2))⟩
      · rw [decide_eq_false hz]
        exact iteF (q hn hz H2 (s1.trans s2))
def sp_wmX (K : PySem.W.Frag) : Sp := fun vs H Q E => ∃ (p : Addr) (m : Md) (z : Str), vs = [.ref p, .str z] ∧ WebAt (CW K) H p m ∧ z.length ≤ 1000 ∧ (¬ Nm z → Out H E (He.ga K "BadName") "BadName" "name" (.str z)) ∧ (Nm z → z ∈ m.pts → Out H E (He.ga K "Taken") "Taken" "name" (.str z)) ∧
  (Nm z → ¬ z ∈ m.pts → ¬ m.own.length < 10 → Out H E (He.ga K "Full") "Full" "most" (.int 10)) ∧
  (Nm z → ¬ z ∈ m.pts → m.own.length < 10 → ∀ (q : Addr) (H' : Hp), Same H H' → H q = none → WebAt (CW K) H' q (m.addM z) → Q (.ref q) H')
theorem metx_Web_with_moment (T : Tp K mg) : MetX P w K mg base 6 (CW K) "with_moment" (sp_wmX K) := by
  obtain ⟨fd, F⟩ := f_Web_with_moment T
  refine metx_of F (cl_Web T) (me_Web_with_moment T) (b_Web_with_moment F) sc_Web_with_moment (fun vs H Q E h => ?_) (fun cdv A outer s H vs Q E hr h tk => ?_)
  · obtain ⟨p, m, z, rfl, _⟩ := h
    rfl
  · obtain ⟨p, m, z, rfl, W, hzl, o1, o2, o3, q⟩ := h
    refine ⟨_, (pss_cons (ps_expr (pe_cx (calx_need_free_name T) tk (fun _ _ _ _ h ↦ h) hr (by decide) rfl (pa_cons (pv 0) (pa_cons (pv 1) pa_nil))))
      (pss_cons (ps_if (pt_cmpR op_ge (pe_callB call_len_seq (by rfl) (z_len T) bb_len (pa_cons (pe_fld (pv 0) rfl) pa_nil)) (C8.pe_gc (by rfl) (c_MOST_MOMENTS T)) (nomark _)) (pss_one (ps_raise rfl tk (pmk_b (mkx_Full T) hr (by decide) rfl (pa_cons (C8.pe_gc (by rfl) (c_MOST_MOMENTS T)) pa_nil)))) pss_nil)
      (pss_one (ps_ret (C8.pe_c (cal_woven T) hr (by decide) rfl (pa_cons (pe_fld (pv 0) rfl) (pa_cons (pe_tup (StX.pa_star (pe_fld (pv 0) rfl) (pa_cons (pv 1) pa_nil))) (pa_cons (pe_fld (pv 0) rfl) (pa_cons (pe_fld (pv 0) rfl) pa_nil))))))))), ?_⟩
    refine ⟨_, rfl, _, rfl, p, m, z, rfl, W, hzl, o1, o2, fun hn hz H1 s1 => ?_⟩
    have o3 := o3 hn hz
    have q := q hn hz
    have W1 := W.same s1
    obtain ⟨dx, a, b, c, ws, bs, h1, h2, h3, h4, h5, h6⟩ := W1.ex
    have hlen := W.len
    refine ⟨_, rfl, p, CW K, dx, _, _, rfl, h1, cl_Web T, na_moment_rows T, wf_m, a, _, rfl, .inr (.inl (.inl h2)), _, _, rfl, rfl, _, rfl, ?_⟩
    by_cases hl : m.own.length < 10
    · rw [decide_eq_false (by rw [List.length_map]; omega)]
      have q := q hl
      refine iteF ?_
      refine ⟨_, rfl, p, CW K, dx, _, _, rfl, h1, cl_Web T, na_by T, wf_by, _, rfl, p, CW K, dx, _, _, rfl, h1, cl_Web T, na_moment_rows T, wf_m, a, _, rfl, .inl (.inl (.inl h2)), _, rfl, ?_, fun t nt => ?_⟩
      · rw [List.length_append, List.length_map]
        exact Nat.le_of_lt (small1000 (by show _ + 1 ≤ 1000; omega))
      · have s2 := same_upd (o := .tup (m.own.map V.str ++ [.str z])) nt
        refine ⟨_, rfl, p, CW K, dx, _, _, rfl, s2 _ _ h1, cl_Web T, na_span_rows T, wf_s, _, rfl, p, CW K, dx, _, _, rfl, s2 _ _ h1, cl_Web T, na_tie_rows T, wf_t, ?_⟩
        refine ⟨m.addM z, t, b, c, ws, bs, rfl, ?_, s2 _ _ h3, h4.keep (Kt.of s2), s2 _ _ h5, h6.keep (Kt.of s2), ⟨?_, hlen.2.1, hlen.2.2⟩, W.last, fun x H2 s3 nx W3 => q x H2 ((s1.trans s2).trans s3) ((s1.trans s2).free nx) W3⟩
        · rw [upd_same]
          show _ = some (HO.tup ((m.own ++ [z]).map V.str))
          rw [List.map_append]
          rfl
        · show (m.own ++ [z]).length ≤ 10
          rw [List.length_append]
          show _ + 1 ≤ 10
          omega
    · rw [decide_eq_true (by rw [List.length_map]; omega)]
      exact iteT (mk_out ((o3 hl).same s1))
end
end Tw

set_option maxHeartbeats 4000000
namespace Tw
open PySem PySem.Spec PyProof.Rows L2
section
variable {P : Program} {w : World} {K : PySem.W.Frag} {mg : Str → Option Value} {base : Heap}
def sp_isbg (K : PySem.W.Frag) : Sp := fun vs H Q _ => ∃ (p : Addr) (m : Md) (z : Str), vs = [.ref p, .str z] ∧ WebAt (CW K) H p m ∧ ∀ H', Same H H' → Q (.bl (decide (z ∈ ("start" : Str) :: m.own))) H'
theorem cal_isbg (T : Tp K mg) : Cal P w K mg base 3 "is_begin" (sp_isbg K) := by
  obtain ⟨fd, F⟩ := f_is_begin T
  refine cal_of F (g_is_begin T) (b_is_begin F) sc_is_begin (fun vs H Q E h => ?_) (fun cdv A outer s H vs Q E hr h => ?_)
  · obtain ⟨p, m, z, rfl, _⟩ := h
    rfl
  · obtain ⟨p, m, z, rfl, W, q⟩ := h
    obtain ⟨dx, a, b, c, ws, bs, h1, _⟩ := W.ex
    refine ⟨_, (pss_one (ps_ret (C8.pe_c (cal_is_one_of T) hr (by decide) rfl (pa_cons (pv 1) (pa_cons (pe_op op_cat (pe_lst (pa_cons (C8.pe_gc (by rfl) (c_START T)) pa_nil)) (C8.pe_mt0 (met_Web_moments T) hr (by decide) (pv 0))) pa_nil))))), ?_⟩
    refine ⟨_, rfl, by show 1 ≤ sizeLine; decide, fun l nl => ?_⟩
    have s1 : Same H (upd H l (.lst [.str "start"])) := same_upd nl
    refine ⟨_, rfl, p, dx, _, rfl, s1 _ _ h1, wf_no (by decide +kernel), p, m, rfl, W.same s1, fun k nk => ?_⟩
    have nlk : l ≠ k := fun e => by
      rw [← e, upd_same] at nk
      cases nk
    have s2 := same_upd (o := .lst (m.own.map V.str)) nk
    refine ⟨l, k, _, _, rfl, rfl, (by rw [upd_ne nlk]; exact upd_same), upd_same, ?_, fun r nr => ?_⟩
    · rw [List.length_map]
      have hl := W.len
      exact Nat.le_of_lt (small1000 (by show 1 + _ ≤ 1000; omega))
    · have s3 := same_upd (o := .lst ([.str "start"] ++ m.own.map V.str)) nr
      exact ⟨z, r, "start" :: m.own, rfl, upd_same, q _ ((s1.trans s2).trans s3)⟩
/-- what with_span refuses, in its order -/
structure SpanX (K : PySem.W.Frag) (H : Hp) (E : XK) (m : Md) (y z : Str) (a b h : V) : Prop where
  nm : ¬ Nm y → Out H E (He.ga K "BadName") "BadName" "name" (.str y)
  tk : Nm y → y ∈ m.pts → Out H E (He.ga K "Taken") "Taken" "name" (.str y)
  bg : Nm y → ¬ y ∈ m.pts → ¬ z ∈ ("start" : Str) :: m.own → Out H E (He.ga K "NoMoment") "NoMoment" "name" (.str z)
  ln : Nm y → ¬ y ∈ m.pts → z ∈ ("start" : Str) :: m.own → lenB a b = false → Out2 H E (He.ga K "BadLength") "BadLength" "low" "high" a b
  la : Nm y → ¬ y ∈ m.pts → z ∈ ("start" : Str) :: m.own → lenB a b = true → lateB h = false → Out H E (He.ga K "BadLate") "BadLate" "late" h
  fl : Nm y → ¬ y ∈ m.pts → z ∈ ("start" : Str) :: m.own → lenB a b = true → lateB h = true → ¬ m.wd.length < 4 → Out H E (He.ga K "Full") "Full" "most" (.int 4)
def sp_spanX (K : PySem.W.Frag) : Sp := fun vs H Q E => ∃ (p : Addr) (m : Md) (y z : Str) (a b h : V), vs = [.ref p, .str y, .str z, a, b, h] ∧ WebAt (CW K) H p m ∧ y.length ≤ 1000 ∧ (plK a).isSome = true ∧ (plK b).isSome = true ∧ (plK h).isSome = true ∧ SpanX K H E m y z a b h ∧
  (Nm y → ¬ y ∈ m.pts → z ∈ ("start" : Str) :: m.own → lenB a b = true → lateB h = true → m.wd.length < 4 → ∀ (i j : Int) (o : Option Int), a = .int i → b = .int j → h = oV o → ∀ (q : Addr) (H' : Hp), Same H H' → H q = none → WebAt (CW K) H' q (m.addS ⟨y, z, i, j, o⟩) → Q (.ref q) H')
theorem fnx_with_span (T : Tp K mg) {fd : FuncData} (F : FunD K "with_span" "Web.with_span" (defArgs s_Web_with_span) (defBody s_Web_with_span) (defScope s_Web_with_span) [] [("late", V.int 0)] (He.ma K (He.ga K "Web") "with_span") fd) :
    FnOk P w K mg base (L2.CX P w) 6 (He.ma K (He.ga K "Web") "with_span") fd ["self", "end", "begin", "low", "high", "late"] (sp_spanX K) := by
  refine fnx_of F sc_Web_with_span (fun vs H Q E h => ?_) (fun cdv A outer s H vs Q E hr h tk => ?_)
  · obtain ⟨p, m, y, z, a, b, h, rfl, _⟩ := h
    rfl
  · obtain ⟨p, m, y, z, a, b, h, rfl, W, hyl, pa, pb, ph, O, q⟩ := h
    have hlen := W.len
    refine ⟨_, (pss_cons (ps_expr (pe_cx (calx_need_free_name T) tk (fun _ _ _ _ h ↦ h) hr (by decide) rfl (pa_cons (pv 0) (pa_cons (pv 1) pa_nil))))
      (pss_cons (ps_if (pt_not (pt_val (C8.pe_c (cal_isbg T) hr (by decide) rfl (pa_cons (pv 0) (pa_cons (pv 2) pa_nil))))) (pss_one (ps_raise rfl tk (pmk_b (mkx_NoMoment T) hr (by decide) rfl (pa_cons (pv 2) pa_nil)))) pss_nil)
      (pss_cons (ps_if (pt_not (pt_val (C8.pe_c (cal_are_lengths T) hr (by decide) rfl (pa_cons (pv 3) (pa_cons (pv 4) pa_nil))))) (pss_one (ps_raise rfl tk (pmk_b (mkx_BadLength T) hr (by decide) rfl (pa_cons (pv 3) (pa_cons (pv 4) pa_nil))))) pss_nil)
      (pss_cons (ps_if (pt_not (pt_val (C8.pe_c (cal_is_lateness T) hr (by decide) rfl (pa_cons (pv 5) pa_nil)))) (pss_one (ps_raise rfl tk (pmk_b (mkx_BadLate T) hr (by decide) rfl (pa_cons (pv 5) pa_nil)))) pss_nil)
      (pss_cons (ps_if (pt_cmpR op_ge (pe_callB call_len_seq (by rfl) (z_len T) bb_len (pa_cons (pe_fld (pv 0) rfl) pa_nil)) (C8.pe_gc (by rfl) (c_MOST_SPANS T)) (nomark _)) (pss_one (ps_raise rfl tk (pmk_b (mkx_Full T) hr (by decide) rfl (pa_cons (C8.pe_gc (by rfl) (c_MOST_SPANS T)) pa_nil)))) pss_nil)
      (pss_cons (ps_set (i := 6) sc_Web_with_span.nd rfl (.inl rfl) (pe_tup (pa_cons (pv 1) (pa_cons (pv 2) (pa_cons (pv 3) (pa_cons (pv 4) (pa_cons (pv 5) pa_nil)))))))
      (pss_one (ps_ret (C8.pe_c (cal_woven T) hr (by decide) rfl (pa_cons (pe_fld (pv 0) rfl) (pa_cons (pe_fld (pv 0) rfl) (pa_cons (pe_tup (StX.pa_star (pe_fld (pv 0) rfl) (pa_cons (pv 6) pa_nil))) (pa_cons (pe_fld (pv 0) rfl) pa_nil))))))))))))), ?_⟩
    refine ⟨_, rfl, _, rfl, p, m, y, rfl, W, hyl, O.nm, O.tk, fun hn hy H1 s1 => ?_⟩
    have W1 := W.same s1
    refine ⟨_, rfl, _, rfl, p, m, z, rfl, W1, fun H2 s2 => ⟨_, rfl, ?_⟩⟩
    have s12 := s1.trans s2
    by_cases hz : z ∈ ("start" : Str) :: m.own
    · rw [decide_eq_true hz]
      refine iteF ?_
      refine ⟨_, rfl, _, rfl, a, b, rfl, pa, pb, _, rfl, ?_⟩
      cases hL : lenB a b with
      | false => exact iteT ⟨_, rfl, _, rfl, mk_out2 ((O.ln hn hy hz hL).same s12)⟩
      | true =>
        obtain ⟨i, j, rfl, rfl, i1, ij, j2⟩ := len_ok hL
        refine iteF ⟨_, rfl, h, rfl, ph, _, rfl, ?_⟩
        cases hlate : lateB h with
        | false => exact iteT ⟨_, rfl, mk_out ((O.la hn hy hz hL hlate).same s12)⟩
        | true =>
          obtain ⟨o, eo, ho⟩ := late_ok hlate
          have W2 := W1.same s2
          obtain ⟨dx, a, b, c, ws, bs, h1, h2, h3, h4, h5, h6⟩ := W2.ex
          have hw : ws.length = m.wd.length := by rw [h4.len, List.length_map]
          refine iteF ?_
          refine ⟨_, rfl, p, CW K, dx, _, _, rfl, h1, cl_Web T, na_span_rows T, wf_s, b, _, rfl, .inr (.inl (.inl h3)), _, _, rfl, rfl, _, rfl, ?_⟩
          by_cases few : m.wd.length < 4
          · rw [decide_eq_false (by rw [hw]; omega)]
            have q := q hn hy hz hL hlate few i j o rfl rfl eo
            refine iteF ?_
            refine ⟨_, rfl, _, rfl, _, rfl, _, rfl, _, rfl, (by show 5 ≤ sizeLine; decide), fun t nt => ?_⟩
            have s3 := same_upd (o := .tup [.str y, .str z, .int i, .int j, h]) nt
            refine ⟨_, rfl, p, CW K, dx, _, _, rfl, s3 _ _ h1, cl_Web T, na_by T, wf_by, _, rfl, p, CW K, dx, _, _, rfl, s3 _ _ h1, cl_Web T, na_moment_rows T, wf_m, _, rfl, p, CW K, dx, _, _, rfl, s3 _ _ h1, cl_Web T, na_span_rows T, wf_s, b, _, rfl, .inl (.inl (.inl (s3 _ _ h3))), .ref t, rfl, ?_, fun u nu => ?_⟩
            · rw [List.length_append]
              exact Nat.le_of_lt (small1000 (by show _ + 1 ≤ 1000; omega))
            · have s4 := same_upd (o := .tup (ws ++ [.ref t])) nu
              have s5 := s3.trans s4
              refine ⟨_, rfl, p, CW K, dx, _, _, rfl, s5 _ _ h1, cl_Web T, na_tie_rows T, wf_t, ?_⟩
              have rw' : Rows (upd (upd H2 t (.tup [.str y, .str z, .int i, .int j, h])) u (.tup (ws ++ [.ref t]))) (ws ++ [.ref t]) ((m.addS ⟨y, z, i, j, o⟩).wd.map Wd.row) := by
                show Rows _ _ ((m.wd ++ [(⟨y, z, i, j, o⟩ : Wd)]).map Wd.row)
                rw [List.map_append]
                refine (h4.keep (Kt.of s5)).snoc ?_
                rw [eo] at s4 ⊢
                exact s4 _ _ upd_same
              refine ⟨m.addS ⟨y, z, i, j, o⟩, a, u, c, ws ++ [V.ref t], bs, rfl, s5 _ _ h2, upd_same, rw', s5 _ _ h5, h6.keep (Kt.of s5), ⟨hlen.1, ?_, hlen.2.2⟩, W.last, fun x H5 s6 nx W5 => q x H5 ((s12.trans s5).trans s6) ((s12.trans s5).free nx) W5⟩
              show (m.wd ++ [(⟨y, z, i, j, o⟩ : Wd)]).length ≤ 4
              rw [List.length_append]
              show _ + 1 ≤ 4
              omega
          · rw [decide_eq_true (by rw [hw]; omega)]
            exact iteT (mk_out ((O.fl hn hy hz hL hlate few).same s12))
    · rw [decide_eq_false hz]
      exact iteT ⟨_, rfl, mk_out ((O.bg hn hy hz).same s12)⟩
theorem mgx_Web_with_span_late (T : Tp K mg) : MetG P w K mg base (L2.CX P w) 6 (CW K) "with_span" (sp_spanX K) 5 ["late"] (fun us ws => us ++ ws) := by
  obtain ⟨fd, F⟩ := f_Web_with_span T
  exact ⟨_, fd, _, _, cl_Web T, me_Web_with_span T, fnx_with_span T F, kbn_by F (fun us ws => us ++ ws) (fun r1 r2 => r1.append r2) fun kV doc pm an cdv ct us ws h1 h2 => match us, ws, h1, h2 with
    | [_, _, _, _, _], [_], _, _ => rfl⟩
theorem mgx_Web_with_span (T : Tp K mg) : MetG P w K mg base (L2.CX P w) 6 (CW K) "with_span" (sp_spanX K) 5 [] (fun us ws => us ++ ([.int 0] ++ ws)) := by
  obtain ⟨fd, F⟩ := f_Web_with_span T
  obtain ⟨mv, hb⟩ := F.kbinds0 (ps := ["self", "end", "begin", "low", "high", "late"]) 5 [] [("late", .int 0)] (fun us mv ws => us ++ (mv ++ ws)) (by simp) (by simp) (fun r1 r2 r3 => r1.append (r2.append r3)) fun D doc pm an cdv ct us mv ws h1 h2 h3 => match us, mv, ws, h1, h2, h3 with
    | [_, _, _, _, _], [_], [], _, _, _ => ⟨_, _, _, _, _, _, rfl, rfl, rfl⟩
  exact ⟨_, fd, _, _, cl_Web T, me_Web_with_span T, fnx_with_span T F, hb⟩
theorem mg_Web_with_span (T : Tp K mg) : MetG P w K mg base CX0 6 (CW K) "with_span" (fun vs H Q _ => sp_spanX K vs H Q E0) 5 [] (fun us ws => us ++ ([.int 0] ++ ws)) := (mgx_Web_with_span T).calm
end
end Tw

set_option maxHeartbeats 4000000
namespace Tw
open PySem PySem.Spec PyProof.Rows L2
/-! ### the bounds of a tie, any plain values -/
def tlV (a b : V) : List V := [a, b].filter fun v => !decide (v = .non)
def leV : V → V → Bool
  | .int i, .int j => decide (i ≤ j)
  | _, _ => false
def tieBnd (a b : V) : Bool := (tlV a b).all (whB (-1000) 1000) && match (tlV a b).head?, (tlV a b).getLast? with
  | some x, some y => leV x y
  | _, _ => false
theorem bd_ok1 {a b : V} (h : tieBnd a b = true) : ∃ bo to : Option Int, a = oV bo ∧ b = oV to ∧ BOk bo to := by
  unfold tieBnd at h
  obtain ⟨h1, h2⟩ := Bool.and_eq_true_iff.mp h
  by_cases ea : a = .non
  · by_cases eb : b = .non
    · subst ea eb
      cases h2
    · subst ea
      have e : tlV .non b = [b] := by
        unfold tlV
        rw [List.filter_cons, List.filter_cons, if_neg (by simp), if_pos (by simp [eb])]
        rfl
      rw [e] at h1
      rw [List.all_cons, List.all_nil, Bool.and_true] at h1
      obtain ⟨i, rfl, i1, i2⟩ := wh_int h1
      exact ⟨none, some i, rfl, rfl, ⟨fun z => (by cases z.2), fun x z => (by cases z), fun x z => by cases z; exact ⟨i1, i2⟩, fun x y z => by cases z⟩⟩
  · by_cases eb : b = .non
    · subst eb
      have e : tlV a .non = [a] := by
        unfold tlV
        rw [List.filter_cons, List.filter_cons, if_pos (by simp [ea]), if_neg (by simp)]
        rfl
      rw [e] at h1
      rw [List.all_cons, List.all_nil, Bool.and_true] at h1
      obtain ⟨i, rfl, i1, i2⟩ := wh_int h1
      exact ⟨some i, none, rfl, rfl, ⟨fun z => (by cases z.1), fun x z => by cases z; exact ⟨i1, i2⟩, fun x z => (by cases z), fun x y _ z => by cases z⟩⟩
    · have e : tlV a b = [a, b] := by
        unfold tlV
        rw [List.filter_cons, List.filter_cons, if_pos (by simp [ea]), if_pos (by simp [eb])]
        rfl
      rw [e] at h1 h2
      rw [List.all_cons, List.all_cons, List.all_nil, Bool.and_true, Bool.and_eq_true] at h1
      obtain ⟨i, rfl, i1, i2⟩ := wh_int h1.1
      obtain ⟨j, rfl, j1, j2⟩ := wh_int h1.2
      have hij : i ≤ j := of_decide_eq_true (show decide (i ≤ j) = true from h2)
      exact ⟨some i, some j, rfl, rfl, ⟨fun z => (by cases z.1), fun x z => by cases z; exact ⟨i1, i2⟩, fun x z => by cases z; exact ⟨j1, j2⟩, fun x y z1 z2 => by cases z1; cases z2; exact hij⟩⟩
theorem fm_flt {α : Type} (l : List α) (p : α → Bool) : l.filterMap (fun x => if p x = true then some x else none) = l.filter p := by
  induction l with
  | nil => rfl
  | cons a r ih =>
    rw [List.filterMap_cons, List.filter_cons, ih]
    cases p a <;> rfl
theorem fm_mp {α β : Type} (l : List α) (f : α → β) : l.filterMap (fun x => some (f x)) = l.map f := by
  induction l with
  | nil => rfl
  | cons a r ih => rw [List.filterMap_cons, List.map_cons, ih]
section
variable {P : Program} {w : World} {K : PySem.W.Frag} {mg : Str → Option Value} {base : Heap}
def sp_areb : Sp := fun vs H Q _ => ∃ a b : V, vs = [a, b] ∧ (plK a).isSome = true ∧ (plK b).isSome = true ∧ ∀ H', Same H H' → Q (.bl (tieBnd a b)) H'
theorem cal_areb (T : Tp K mg) : Cal P w K mg base 3 "are_bounds" sp_areb := by
  obtain ⟨fd, F⟩ := f_are_bounds T
  refine cal_of F (g_are_bounds T) (b_are_bounds F) sc_are_bounds (fun vs H Q E h => ?_) (fun cdv A outer s H vs Q E hr h => ?_)
  · obtain ⟨a, b, rfl, _⟩ := h
    rfl
  · obtain ⟨a, b, rfl, pa, pb, q⟩ := h
    refine ⟨_, (pss_cons (ps_setLc (i := 2) (own := [("bound", 3)]) (g := gName 3) rfl sc_are_bounds.nd rfl rfl (sw_true rfl rfl rfl (by decide +kernel)) (pi_tup (pe_tup (pa_cons (pv 0) (pa_cons (pv 1) pa_nil)))) (blkOk_by (N := N_are_bounds) (sc := defScope s_are_bounds) (by decide +kernel)) (fun _ _ _ _ _ => (pg_name (i := 3) sc_are_bounds.nd rfl (.inl rfl))) (fun _ _ _ _ _ => (pts_one (pt_cmpR op_notN (pv 3) pe_non (nomark _)))) (fun _ _ _ _ _ => (pv 3)))
      (pss_cons (ps_if (pt_not (pt_val (pe_callB (cr_all rfl) (by rfl) (z_all T) bb_all (pa_cons (pe_lc (own := [("bound", 3)]) (g := gName 3) (tt := tYes) rfl sc_are_bounds.nd (pi_list (pv 2)) (blkOk_by (N := N_are_bounds) (sc := defScope s_are_bounds) (by decide +kernel)) (fun _ _ _ _ _ => (pg_name (i := 3) sc_are_bounds.nd rfl (.inl rfl))) (fun _ _ _ _ _ => pts_nil) (fun _ _ _ _ _ => (C8.pe_c (cal_iswh T) hr (by decide) rfl (pa_cons (pv 3) (pa_cons (pe_un un_neg (C8.pe_gc (by rfl) (c_MOST_BOUND T))) (pa_cons (C8.pe_gc (by rfl) (c_MOST_BOUND T)) pa_nil)))))) pa_nil)))) (pss_one (ps_ret pe_bl)) pss_nil)
      (pss_one (ps_ret (pe_and (pe_cmpR op_gt (pe_callB call_len_seq (by rfl) (z_len T) bb_len (pa_cons (pv 2) pa_nil)) pe_int (nomark _)) (pe_one (pe_cmpR op_le (pe_ix ix_list (pv 2) pe_int (fun _ _ => rfl)) (pe_ix ix_list (pv 2) (pe_un un_neg pe_int) (fun _ _ => rfl)) (nomark _)))))))), ?_⟩
    refine ⟨_, rfl, _, rfl, (by show 2 ≤ sizeLine; decide), fun t nt => ?_⟩
    have s1 : Same H (upd H t (.tup [a, b])) := same_upd nt
    refine ⟨t, rfl, ⟨_, .inl (.inl upd_same)⟩, fun D nD => ?_⟩
    refine lc_pure [a, b] (walk_tupN (xs := [a, b]) rfl) (fun v => if (!decide (v = V.non)) = true then some v else none) (SV id) (fun _ h => h) nD (by show 2 ≤ 1000; decide) (fun H s => .inl (.inl (s _ _ upd_same))) ?_ ?_
    · rintro i x v H1 _ ex s2 ⟨rfl, hv⟩ Good Bad kt kf
      have e : v = x := by
        rw [ex] at hv
        cases hv
        rfl
      subst e
      have hsc : scal v .non = true := by
        have hm : v = a ∨ v = b := by
          have := List.mem_of_getElem? ex
          simpa using this
        have hp : (plK v).isSome = true := by
          rcases hm with h | h <;> rw [h] <;> assumption
        cases v <;> first | rfl | cases hp
      refine ⟨rfl, _, rfl, rfl, _, rfl, ?_⟩
      cases e : !decide (v = V.non) with
      | true => exact iteT ⟨_, rfl, kt _ _ _ (by rw [if_pos e]) (Same.refl _) rfl⟩
      | false => exact iteF (kf (by rw [if_neg (by rw [e]; simp)]) _ (Same.refl _))
    · intro H1 acc s2 d1 p1
      have ea := paired_enc p1
      rw [fm_flt, List.map_id] at ea
      have ea : acc = tlV a b := ea
      subst ea
      have s3 := s1.trans s2
      have hpl : ∀ v ∈ tlV a b, (plK v).isSome = true := fun v hv => by
        have hm := (List.mem_filter.mp hv).1
        have hm : v = a ∨ v = b := by simpa using hm
        rcases hm with h | h <;> rw [h] <;> assumption
      have hlen : (tlV a b).length ≤ 2 := List.length_filter_le _ _
      refine ⟨_, rfl, D, rfl, ⟨_, .inl (.inl d1)⟩, fun L nL => ?_⟩
      refine lc_pure (tlV a b) (walk_listN (xs := tlV a b) rfl) (fun v => some (whB (-1000) 1000 v)) (SV V.bl) (fun _ h => h) nL (by omega) (fun H s => .inl (.inl (s _ _ d1))) ?_ ?_
      · rintro i x v H2 _ ex s4 ⟨rfl, hv⟩ Good Bad kt kf
        have e : v = x := by
          rw [ex] at hv
          cases hv
          rfl
        subst e
        exact ⟨rfl, yes_i (iteT ⟨_, rfl, 1000, rfl, v, -1000, 1000, rfl, hpl v (List.mem_of_getElem? ex), kt _ _ _ rfl (Same.refl _) rfl⟩)⟩
      · intro H2 acc s4 d2 p2
        have ea := paired_enc p2
        rw [fm_mp] at ea
        subst ea
        refine ⟨L, _, rfl, .inl (.inl d2), _, rfl, ?_⟩
        rw [List.all_map]
        have s5 := s3.trans s4
        have q := q H2 s5
        unfold tieBnd at q
        cases hall : (tlV a b).all (id ∘ whB (-1000) 1000) with
        | false =>
          rw [show (tlV a b).all (whB (-1000) 1000) = false from hall, Bool.false_and] at q
          exact iteT q
        | true =>
          have hall' : (tlV a b).all (whB (-1000) 1000) = true := hall
          rw [hall', Bool.true_and] at q
          refine iteF ?_
          have d4 := s4 _ _ d1
          refine ⟨_, rfl, D, _, rfl, .inl (.inl (.inl d4)), _, 0, rfl, rfl, _, rfl, ?_⟩
          generalize tlV a b = l at *
          match l, hlen with
          | [], _ => exact iteF q
          | [x], _ =>
            rw [List.all_cons, List.all_nil, Bool.and_true] at hall'
            obtain ⟨i, rfl, _, _⟩ := wh_int hall'
            refine iteT ⟨_, rfl, D, _, 0, .int i, rfl, rfl, .inl (.inl d4), atI_nat (j := 0) rfl, _, rfl, 1, rfl, D, _, _, .int i, rfl, rfl, .inl (.inl d4), ?_, i, i, rfl, rfl, q⟩
            exact atI_last [] _
          | [x, y], _ =>
            rw [List.all_cons, List.all_cons, List.all_nil, Bool.and_true, Bool.and_eq_true] at hall'
            obtain ⟨i, rfl, _, _⟩ := wh_int hall'.1
            obtain ⟨j, rfl, _, _⟩ := wh_int hall'.2
            refine iteT ⟨_, rfl, D, _, 0, .int i, rfl, rfl, .inl (.inl d4), atI_nat (j := 0) rfl, _, rfl, 1, rfl, D, _, _, .int j, rfl, rfl, .inl (.inl d4), ?_, i, j, rfl, rfl, q⟩
            exact atI_last [.int i] _
/-! ### need_point, with_tie with what they refuse -/
def sp_npB (K : PySem.W.Frag) : Sp := fun vs H Q E => ∃ (p : Addr) (m : Md) (z : Str), vs = [.ref p, .str z] ∧ WebAt (CW K) H p m ∧ (¬ z ∈ m.pts → Out H E (He.ga K "NoPoint") "NoPoint" "name" (.str z)) ∧ (z ∈ m.pts → ∀ H', Same H H' → Q .non H')
theorem calx_need_point (T : Tp K mg) : CalX P w K mg base 5 "need_point" (sp_npB K) := by
  obtain ⟨fd, F⟩ := f_need_point T
  refine calx_of F (g_need_point T) (b_need_point F) sc_need_point (fun vs H Q E h => ?_) (fun cdv A outer s H vs Q E hr h tk => ?_)
  · obtain ⟨p, m, z, rfl, _⟩ := h
    rfl
  · obtain ⟨p, m, z, rfl, W, o, q⟩ := h
    obtain ⟨dx, a, b, c, ws, bs, h1, _⟩ := W.ex
    refine ⟨_, (pss_one (ps_if (pt_not (pt_val (C8.pe_c (cal_is_one_of T) hr (by decide) rfl (pa_cons (pv 1) (pa_cons (C8.pe_mt0 (met_Web_points T) hr (by decide) (pv 0)) pa_nil))))) (pss_one (ps_raise rfl tk (pmk_b (mkx_NoPoint T) hr (by decide) rfl (pa_cons (pv 1) pa_nil)))) pss_nil)), ?_⟩
    refine ⟨_, rfl, _, rfl, p, dx, _, rfl, h1, wf_no (by decide +kernel), p, m, rfl, W, fun k H2 s2 nk ek => ?_⟩
    refine ⟨z, k, _, rfl, ek, _, rfl, ?_⟩
    by_cases hz : z ∈ m.pts
    · rw [decide_eq_true hz]
      exact iteF (q hz H2 s2)
    · rw [decide_eq_false hz]
      exact iteT ⟨_, rfl, mk_out ((o hz).same s2)⟩
def sp_tieX (K : PySem.W.Frag) : Sp := fun vs H Q E => ∃ (p : Addr) (m : Md) (y z : Str) (a b : V), vs = [.ref p, .str y, .str z, a, b] ∧ WebAt (CW K) H p m ∧ (plK a).isSome = true ∧ (plK b).isSome = true ∧ (¬ y ∈ m.pts → Out H E (He.ga K "NoPoint") "NoPoint" "name" (.str y)) ∧
  (y ∈ m.pts → ¬ z ∈ m.pts → Out H E (He.ga K "NoPoint") "NoPoint" "name" (.str z)) ∧ (y ∈ m.pts → z ∈ m.pts → (y = z ∨ tieBnd a b = false) → Out2 H E (He.ga K "BadTie") "BadTie" "least" "most" a b) ∧
  (y ∈ m.pts → z ∈ m.pts → ¬ y = z → tieBnd a b = true → ¬ m.bd.length < 40 → Out H E (He.ga K "Full") "Full" "most" (.int 40)) ∧
  (y ∈ m.pts → z ∈ m.pts → ¬ y = z → m.bd.length < 40 → ∀ bo to : Option Int, a = oV bo → b = oV to → BOk bo to → ∀ (q : Addr) (H' : Hp), Same H H' → H q = none → WebAt (CW K) H' q (m.addT ⟨y, z, bo, to⟩) → Q (.ref q) H')
theorem fnx_with_tie (T : Tp K mg) {fd : FuncData} (F : FunD K "with_tie" "Web.with_tie" (defArgs s_Web_with_tie) (defBody s_Web_with_tie) (defScope s_Web_with_tie) [] [("least", V.non), ("most", V.non)] (He.ma K (He.ga K "Web") "with_tie") fd) :
    FnOk P w K mg base (L2.CX P w) 6 (He.ma K (He.ga K "Web") "with_tie") fd ["self", "one", "other", "least", "most"] (sp_tieX K) := by
  refine fnx_of F sc_Web_with_tie (fun vs H Q E h => ?_) (fun cdv A outer s H vs Q E hr h tk => ?_)
  · obtain ⟨p, m, y, z, a, b, rfl, _⟩ := h
    rfl
  · obtain ⟨p, m, y, z, a, b, rfl, W, pa, pb, o1, o2, o3, o4, q⟩ := h
    have hlen := W.len
    refine ⟨_, (pss_cons (ps_expr (pe_cx (calx_need_point T) tk (fun _ _ _ _ h ↦ h) hr (by decide) rfl (pa_cons (pv 0) (pa_cons (pv 1) pa_nil))))
      (pss_cons (ps_expr (pe_cx (calx_need_point T) tk (fun _ _ _ _ h ↦ h) hr (by decide) rfl (pa_cons (pv 0) (pa_cons (pv 2) pa_nil))))
      (pss_cons (ps_if (PW.pt (pw_or (pt_cmpR op_eq (pv 1) (pv 2) (nomark _)) (pw_or1 (pt_not (pt_val (C8.pe_c (cal_areb T) hr (by decide) rfl (pa_cons (pv 3) (pa_cons (pv 4) pa_nil)))))))) (pss_one (ps_raise rfl tk (pmk_b (mkx_BadTie T) hr (by decide) rfl (pa_cons (pv 3) (pa_cons (pv 4) pa_nil))))) pss_nil)
      (pss_cons (ps_if (pt_cmpR op_ge (pe_callB call_len_seq (by rfl) (z_len T) bb_len (pa_cons (pe_fld (pv 0) rfl) pa_nil)) (C8.pe_gc (by rfl) (c_MOST_TIES T)) (nomark _)) (pss_one (ps_raise rfl tk (pmk_b (mkx_Full T) hr (by decide) rfl (pa_cons (C8.pe_gc (by rfl) (c_MOST_TIES T)) pa_nil)))) pss_nil)
      (pss_cons (ps_set (i := 5) sc_Web_with_tie.nd rfl (.inl rfl) (pe_tup (pa_cons (pv 1) (pa_cons (pv 2) (pa_cons (pv 3) (pa_cons (pv 4) pa_nil))))))
      (pss_one (ps_ret (C8.pe_c (cal_woven T) hr (by decide) rfl (pa_cons (pe_fld (pv 0) rfl) (pa_cons (pe_fld (pv 0) rfl) (pa_cons (pe_fld (pv 0) rfl) (pa_cons (pe_tup (StX.pa_star (pe_fld (pv 0) rfl) (pa_cons (pv 5) pa_nil))) pa_nil)))))))))))), ?_⟩
    refine ⟨_, rfl, _, rfl, p, m, y, rfl, W, o1, fun hy H1 s1 => ?_⟩
    refine ⟨_, rfl, _, rfl, p, m, z, rfl, W.same s1, fun hz => (o2 hy hz).same s1, fun hz H2 s2 => ?_⟩
    have o3 := o3 hy hz
    have s12 := s1.trans s2
    refine ⟨_, rfl, _, rfl, rfl, _, rfl, ?_⟩
    by_cases e : y = z
    · rw [decide_eq_true (show V.str y = V.str z by rw [e])]
      exact iteT ⟨_, rfl, _, rfl, mk_out2 ((o3 (.inl e)).same s12)⟩
    · rw [decide_eq_false (show ¬ V.str y = V.str z from fun h => e (V.str.inj h))]
      refine iteF ⟨_, rfl, _, rfl, a, b, rfl, pa, pb, fun H3 s3 => ⟨_, rfl, ?_⟩⟩
      cases hb : tieBnd a b with
      | false => exact iteT ⟨_, rfl, _, rfl, mk_out2 ((o3 (.inr hb)).same (s12.trans s3))⟩
      | true =>
        refine iteF ?_
        obtain ⟨bo, to, rfl, rfl, B⟩ := bd_ok1 hb
        have W3 := (W.same s12).same s3
        obtain ⟨dx, a, b, c, ws, bs, h1, h2, h3, h4, h5, h6⟩ := W3.ex
        have hbl : bs.length = m.bd.length := by rw [h6.len, List.length_map]
        refine ⟨_, rfl, p, CW K, dx, _, _, rfl, h1, cl_Web T, na_tie_rows T, wf_t, c, _, rfl, .inr (.inl (.inl h5)), _, _, rfl, rfl, _, rfl, ?_⟩
        by_cases few : m.bd.length < 40
        · rw [decide_eq_false (by rw [hbl]; omega)]
          have q := q hy hz e few bo to rfl rfl B
          refine iteF ?_
          refine ⟨_, rfl, _, rfl, _, rfl, _, rfl, (by show 4 ≤ sizeLine; decide), fun t nt => ?_⟩
          have s4 := same_upd (o := .tup (Bd.row ⟨y, z, bo, to⟩)) nt
          refine ⟨_, rfl, p, CW K, dx, _, _, rfl, s4 _ _ h1, cl_Web T, na_by T, wf_by, _, rfl, p, CW K, dx, _, _, rfl, s4 _ _ h1, cl_Web T, na_moment_rows T, wf_m, _, rfl, p, CW K, dx, _, _, rfl, s4 _ _ h1, cl_Web T, na_span_rows T, wf_s, _, rfl, p, CW K, dx, _, _, rfl, s4 _ _ h1, cl_Web T, na_tie_rows T, wf_t, c, _, rfl, .inl (.inl (.inl (s4 _ _ h5))), .ref t, rfl, ?_, fun u nu => ?_⟩
          · rw [List.length_append]
            exact Nat.le_of_lt (small1000 (by show _ + 1 ≤ 1000; omega))
          · have s5 := same_upd (o := .tup (bs ++ [.ref t])) nu
            have s6 := s4.trans s5
            have rb' : Rows (upd (upd H3 t (.tup (Bd.row ⟨y, z, bo, to⟩))) u (.tup (bs ++ [.ref t]))) (bs ++ [.ref t]) ((m.addT ⟨y, z, bo, to⟩).bd.map Bd.row) := by
              show Rows _ _ ((m.bd ++ [(⟨y, z, bo, to⟩ : Bd)]).map Bd.row)
              rw [List.map_append]
              exact (h6.keep (Kt.of s6)).snoc (s5 _ _ upd_same)
            have sa := (s12.trans s3).trans s6
            refine ⟨m.addT ⟨y, z, bo, to⟩, a, b, u, ws, bs ++ [V.ref t], rfl, s6 _ _ h2, s6 _ _ h3, h4.keep (Kt.of s6), upd_same, rb', ⟨hlen.1, hlen.2.1, ?_⟩, W.last, fun x H5 s7 nx W5 => q x H5 (sa.trans s7) (sa.free nx) W5⟩
            show (m.bd ++ [(⟨y, z, bo, to⟩ : Bd)]).length ≤ 40
            rw [List.length_append]
            show _ + 1 ≤ 40
            omega
        · rw [decide_eq_true (by rw [hbl]; omega)]
          exact iteT (mk_out ((o4 hy hz e hb few).same (s12.trans s3)))
def gRev {α : Type} (us ws : List α) : List α := us ++ ws.reverse
theorem mgx_Web_with_tie_most_least (T : Tp K mg) : MetG P w K mg base (L2.CX P w) 6 (CW K) "with_tie" (sp_tieX K) 3 ["most", "least"] gRev := by
  obtain ⟨fd, F⟩ := f_Web_with_tie T
  exact ⟨_, fd, _, _, cl_Web T, me_Web_with_tie T, fnx_with_tie T F, kbn_by F gRev (fun r1 r2 => r1.append (vals_rev r2)) fun kV doc pm an cdv ct us ws h1 h2 => match us, ws, h1, h2 with
    | [_, _, _], [_, _], _, _ => rfl⟩
theorem mgx_Web_with_tie_least (T : Tp K mg) : MetG P w K mg base (L2.CX P w) 6 (CW K) "with_tie" (sp_tieX K) 3 ["least"] (fun us ws => us ++ (ws ++ [.non])) := by
  obtain ⟨fd, F⟩ := f_Web_with_tie T
  obtain ⟨mv, hb⟩ := F.kbinds0 (ps := ["self", "one", "other", "least", "most"]) 3 ["least"] [("most", .non)] (fun us mv ws => us ++ (ws ++ mv)) (by simp) (by simp) (fun r1 r2 r3 => r1.append (r3.append r2)) fun D doc pm an cdv ct us mv ws h1 h2 h3 => match us, mv, ws, h1, h2, h3 with
    | [_, _, _], [_], [_], _, _, _ => ⟨_, _, _, _, _, _, rfl, rfl, rfl⟩
  exact ⟨_, fd, _, _, cl_Web T, me_Web_with_tie T, fnx_with_tie T F, hb⟩
theorem mgx_Web_with_tie_most (T : Tp K mg) : MetG P w K mg base (L2.CX P w) 6 (CW K) "with_tie" (sp_tieX K) 3 ["most"] (fun us ws => us ++ ([.non] ++ ws)) := by
  obtain ⟨fd, F⟩ := f_Web_with_tie T
  obtain ⟨mv, hb⟩ := F.kbinds0 (ps := ["self", "one", "other", "least", "most"]) 3 ["most"] [("least", .non)] (fun us mv ws => us ++ (mv ++ ws)) (by simp) (by simp) (fun r1 r2 r3 => r1.append (r2.append r3)) fun D doc pm an cdv ct us mv ws h1 h2 h3 => match us, mv, ws, h1, h2, h3 with
    | [_, _, _], [_], [_], _, _, _ => ⟨_, _, _, _, _, _, rfl, rfl, rfl⟩
  exact ⟨_, fd, _, _, cl_Web T, me_Web_with_tie T, fnx_with_tie T F, hb⟩
theorem mg_Web_with_tie_most_least (T : Tp K mg) : MetG P w K mg base CX0 6 (CW K) "with_tie" (fun vs H Q _ => sp_tieX K vs H Q E0) 3 ["most", "least"] gRev := (mgx_Web_with_tie_most_least T).calm
theorem mg_Web_with_tie_least (T : Tp K mg) : MetG P w K mg base CX0 6 (CW K) "with_tie" (fun vs H Q _ => sp_tieX K vs H Q E0) 3 ["least"] (fun us ws => us ++ (ws ++ [.non])) := (mgx_Web_with_tie_least T).calm
theorem mg_Web_with_tie_most (T : Tp K mg) : MetG P w K mg base CX0 6 (CW K) "with_tie" (fun vs H Q _ => sp_tieX K vs H Q E0) 3 ["most"] (fun us ws => us ++ ([.non] ++ ws)) := (mgx_Web_with_tie_most T).calm
end
end Tw

set_option maxHeartbeats 4000000
namespace Tw
open PySem PySem.Spec PyProof.Rows L2
def usedB (m : Md) (z : Str) : Bool := decide (z ∈ m.wd.map (·.bg)) || m.bd.any fun b => decide (z ∈ [b.one, b.oth])
def Md.drp (m : Md) (z : Str) : Md := { m with own := m.own.filter fun x => !decide (x = z), wd := m.wd.filter fun x => !decide (x.en = z) }
def Md.unt (m : Md) (i : Nat) : Md := { m with bd := m.bd.eraseIdx i }
theorem bb_any : bootBuiltins "any" = some (.builtin "any") := by decide +kernel
theorem fm_map {α β : Type} (l : List α) (f : α → β) : l.filterMap (fun x => some (f x)) = l.map f := by
  induction l with
  | nil => rfl
  | cons a r ih => rw [List.filterMap_cons, List.map_cons, ih]
theorem fm_filter {α : Type} (l : List α) (p : α → Bool) : l.filterMap (fun x => if p x = true then some x else none) = l.filter p := by
  induction l with
  | nil => rfl
  | cons a r ih =>
    rw [List.filterMap_cons, List.filter_cons, ih]
    cases p a <;> rfl
theorem Rows.erase {H : Hp} : ∀ {xs : List V} {rs : List (List V)} (i : Nat), Rows H xs rs → Rows H (xs.eraseIdx i) (rs.eraseIdx i)
  | _, _, 0, .nil => .nil
  | _, _, _ + 1, .nil => .nil
  | _, _, 0, .cons _ t => t
  | _, _, i + 1, .cons h t => .cons h (Rows.erase i t)
theorem erase_mapX {α β : Type} (f : α → β) : ∀ (l : List α) (i : Nat), (l.eraseIdx i).map f = (l.map f).eraseIdx i
  | [], _ => rfl
  | _ :: _, 0 => rfl
  | a :: r, i + 1 => by
    show f a :: (r.eraseIdx i).map f = f a :: (r.map f).eraseIdx i
    rw [erase_mapX f r i]
theorem cut_erase {xs : List V} {i : Nat} (h : i < xs.length) : cutV xs none (some (i : Int)) ++ cutV xs (some ((i : Int) + 1)) none = xs.eraseIdx i := by
  unfold cutV
  rw [HT.sIx_none, HT.sIx_none, HT.sIx_nat, show ((i : Int) + 1) = ((i + 1 : Nat) : Int) from rfl, HT.sIx_nat, List.drop_zero, Nat.sub_zero, Nat.min_eq_left (Nat.le_of_lt h), Nat.min_eq_left (show i + 1 ≤ xs.length from h), List.eraseIdx_eq_take_drop_succ]
  congr 1
  exact List.take_of_length_le (by rw [List.length_drop]; exact Nat.le_refl _)
section
variable {P : Program} {w : World} {K : PySem.W.Frag} {mg : Str → Option Value} {base : Heap}
/-! ### woven of two lists -/
def sp_wovenL (K : PySem.W.Frag) : Sp := fun vs H Q _ => ∃ (m : Md) (a b c : Addr) (ws bs : List V), vs = [.int m.last, .ref a, .ref b, .ref c] ∧ H a = some (.lst (m.own.map V.str)) ∧ H b = some (.lst ws) ∧ Rows H ws (m.wd.map Wd.row) ∧ H c = some (.tup bs) ∧ Rows H bs (m.bd.map Bd.row) ∧
  (m.own.length ≤ 10 ∧ m.wd.length ≤ 4 ∧ m.bd.length ≤ 40) ∧ (1 ≤ m.last ∧ m.last ≤ 1000) ∧ ∀ (p : Addr) (H' : Hp), Same H H' → H p = none → WebAt (CW K) H' p m → Q (.ref p) H'
theorem cal_wovenL (T : Tp K mg) : Cal P w K mg base 5 "woven" (sp_wovenL K) := by
  obtain ⟨fd, F⟩ := f_woven T
  refine cal_of F (g_woven T) (b_woven F) sc_woven (fun vs H Q E h => ?_) (fun cdv A outer s H vs Q E hr h => ?_)
  · obtain ⟨m, a, b, c, ws, bs, rfl, _⟩ := h
    rfl
  · obtain ⟨m, a, b, c, ws, bs, rfl, ha, hb, rb, hc, rc, hl, hla, q⟩ := h
    refine ⟨_, (pss_cons (ps_set (i := 4) sc_woven.nd rfl (.inl rfl) (C8.pe_mk (mak_Web T) hr (by decide) rfl (pa_cons (pv 0) pa_nil)))
      (pss_cons (ps_fld (pv 4) (pe_callTy call_tuple_of (by rfl) (z_tuple T) bb_tuple (pa_cons (pv 1) pa_nil)) rfl)
      (pss_cons (ps_fld (pv 4) (pe_callTy call_tuple_of (by rfl) (z_tuple T) bb_tuple (pa_cons (pv 2) pa_nil)) rfl)
      (pss_cons (ps_fld (pv 4) (pe_callTy call_tuple_of (by rfl) (z_tuple T) bb_tuple (pa_cons (pv 3) pa_nil)) rfl)
      (pss_one (ps_ret (pv 4))))))), ?_⟩
    refine ⟨_, rfl, fun x dx nx ndx ne => ⟨x, dx, m.last, rfl, upd_same, hla.1, hla.2, fun a0 b0 c0 H1 kp hp ha0 hb0 hc0 => ⟨rfl, ?_⟩⟩⟩
    have s1 : Same H H1 := Same.made nx ndx kp
    have nbx : b ≠ x := ne_of_none hb nx
    have ncx : c ≠ x := ne_of_none hc nx
    refine ⟨_, rfl, a, _, rfl, .inl ⟨.inl (.inl (s1 _ _ ha)), fun ta nta => ?_⟩⟩
    have nxa : x ≠ ta := ne_of_none hp nta
    refine ⟨_, rfl, x, CW K, dx, _, rfl, (by rw [upd_ne nxa]; exact hp), cl_Web T, na_moment_rows T, (by show 4 < 1000; decide), ?_⟩
    have s2 : Same H (upd (upd H1 ta (.tup (m.own.map V.str))) x (.ins (CW K) dx (putF "moment_rows" (.ref ta) (wf m.last a0 b0 c0)))) := fun y o e => by
      rw [upd_ne (ne_of_none e nx), upd_ne (ne_of_none (s1 _ _ e) nta)]
      exact s1 _ _ e
    refine ⟨_, rfl, b, _, rfl, .inl ⟨.inl (.inl (s2 _ _ hb)), fun tb ntb => ?_⟩⟩
    have nxb : x ≠ tb := fun e => by
      rw [← e, upd_same] at ntb
      cases ntb
    have nab : ta ≠ tb := fun e => by
      rw [← e, upd_ne nxa.symm, upd_same] at ntb
      cases ntb
    refine ⟨_, rfl, x, CW K, dx, _, rfl, (by rw [upd_ne nxb]; exact up_eq (by rw [wf_pm])), cl_Web T, na_span_rows T, (by show 4 < 1000; decide), ?_⟩
    have s3 : Same H (upd (upd (upd (upd H1 ta (.tup (m.own.map V.str))) x (.ins (CW K) dx (putF "moment_rows" (.ref ta) (wf m.last a0 b0 c0)))) tb (.tup ws)) x (.ins (CW K) dx (putF "span_rows" (.ref tb) (wf m.last ta b0 c0)))) := fun y o e => by
      rw [upd_ne (ne_of_none e nx), upd_ne (ne_of_none (s2 _ _ e) ntb)]
      exact s2 _ _ e
    refine ⟨_, rfl, c, _, rfl, .inr ⟨.inl (.inl (s3 _ _ hc)), _, rfl, x, CW K, dx, _, rfl, up_eq (by rw [wf_ps]), cl_Web T, na_tie_rows T, (by show 4 < 1000; decide), ?_⟩⟩
    refine ⟨_, rfl, ?_⟩
    have s4 : ∀ o', Same H (upd (upd (upd (upd (upd H1 ta (.tup (m.own.map V.str))) x (.ins (CW K) dx (putF "moment_rows" (.ref ta) (wf m.last a0 b0 c0)))) tb (.tup ws)) x (.ins (CW K) dx (putF "span_rows" (.ref tb) (wf m.last ta b0 c0)))) x o') := fun o' y o e => by
      rw [upd_ne (ne_of_none e nx)]
      exact s3 _ _ e
    refine q x _ (s4 _) nx ⟨⟨dx, ta, tb, c, ws, bs, up_eq (by rw [wf_pt]), ?_, ?_, rb.keep (Kt.of (s4 _)), s4 _ _ _ hc, rc.keep (Kt.of (s4 _))⟩, hl, hla⟩
    · rw [upd_ne nxa.symm, upd_ne nxa.symm, upd_ne nab, upd_ne nxa.symm, upd_same]
    · rw [upd_ne nxb.symm, upd_ne nxb.symm, upd_same]
/-! ### is_used -/
def sp_is_used (K : PySem.W.Frag) : Sp := fun vs H Q _ => ∃ (p : Addr) (m : Md) (z : Str), vs = [.ref p, .str z] ∧ WebAt (CW K) H p m ∧ ∀ H', Same H H' → Q (.bl (usedB m z)) H'
theorem cal_is_used (T : Tp K mg) : Cal P w K mg base 3 "is_used" (sp_is_used K) := by
  obtain ⟨fd, F⟩ := f_is_used T
  refine cal_of F (g_is_used T) (b_is_used F) sc_is_used (fun vs H Q E h => ?_) (fun cdv A outer s H vs Q E hr h => ?_)
  · obtain ⟨p, m, z, rfl, _⟩ := h
    rfl
  · obtain ⟨p, m, z, rfl, W, q⟩ := h
    have hlen := W.len
    obtain ⟨dx, a, b, c, ws0, bs0, h1, _⟩ := W.ex
    refine ⟨_, (pss_cons (ps_setLc (i := 2) (own := [("span", 3)]) (g := gName 3) (tt := tYes) rfl sc_is_used.nd rfl rfl (sw_true rfl rfl rfl (by decide +kernel)) (pi_list (C8.pe_mt0 (met_Web_spans T) hr (by decide) (pv 0))) (blkOk_by (N := N_is_used) (sc := defScope s_is_used) (by decide +kernel)) (fun _ _ _ _ _ => (pg_name (i := 3) sc_is_used.nd rfl (.inl rfl))) (fun _ _ _ _ _ => pts_nil) (fun _ _ _ _ _ => (pe_ix (ix_tupK (K := K) rfl) (pv 3) pe_int (fun _ _ => rfl))))
      (pss_one (ps_ret (pe_or (pe_cmpR op_in_seq (pv 1) (pv 2) (by rfl)) (pe_one (pe_callB (cr_any rfl) (by rfl) (z_any T) bb_any (pa_cons (pe_lc (own := [("tie", 4)]) (g := gName 4) (tt := tYes) rfl sc_is_used.nd (pi_list (C8.pe_mt0 (met_Web_ties T) hr (by decide) (pv 0))) (blkOk_by (N := N_is_used) (sc := defScope s_is_used) (by decide +kernel)) (fun _ _ _ _ _ => (pg_name (i := 4) sc_is_used.nd rfl (.inl rfl))) (fun _ _ _ _ _ => pts_nil) (fun _ _ _ _ _ => (pe_cmpR (op_in_seqK (K := K) rfl) (pv 1) (pe_slice (sl_tupK (K := K) rfl) (pv 4) po_none (po_some pe_int)) (by rfl)))) pa_nil))))))), ?_⟩
    refine ⟨_, rfl, p, dx, _, rfl, h1, wf_no (by decide +kernel), p, m, rfl, W, fun ws l rw1 nl => ⟨l, rfl, ⟨_, .inl (.inl upd_same)⟩, fun D nD => ?_⟩⟩
    have s0 := same_upd (o := .lst ws) nl
    refine lc_pure m.wd (walk_listN (by rw [rw1.len, List.length_map])) (fun x => some x.bg) (SV V.str) (fun _ h => h) nD (by omega) (fun H1 s1 => .inl (.inl (s1 _ _ upd_same))) ?_ ?_
    · rintro i x v H1 H1' ex s1 ⟨rfl, hv⟩ Good Bad kt kf
      obtain ⟨t, rfl, ht⟩ := rows_at rw1 hv ex
      exact ⟨rfl, yes_i (iteT ⟨_, rfl, t, _, 1, _, rfl, rfl, .inl (.inl (s1 _ _ (s0 _ _ ht))), atI_nat (j := 1) rfl, kt _ _ _ rfl (Same.refl _) rfl⟩)⟩
    · intro H2 acc s2 d2 p2
      have ea := paired_enc p2
      rw [fm_map] at ea
      subst ea
      have sA := s0.trans s2
      refine ⟨_, rfl, _, rfl, D, _, rfl, .inl (.inl (.inl d2)), rfl, flat_strs _, _, rfl, ?_⟩
      show if inV (.str z) ((m.wd.map (·.bg)).map V.str) = true then _ else _
      rw [in_strs]
      unfold usedB at q
      by_cases hz : z ∈ m.wd.map (·.bg)
      · rw [decide_eq_true hz] at q ⊢
        exact iteT (q H2 sA)
      · rw [decide_eq_false hz] at q ⊢
        refine iteF ?_
        have W2 := W.same sA
        obtain ⟨dx, a, b, c, ws0, bs0, h1, _⟩ := W2.ex
        refine ⟨_, rfl, p, dx, _, rfl, h1, wf_no (by decide +kernel), p, m, rfl, W2, fun bs l rw1 nl => ⟨l, rfl, ⟨_, .inl (.inl upd_same)⟩, fun D nD => ?_⟩⟩
        have s3 := same_upd (o := .lst bs) nl
        refine lc_pure m.bd (walk_listN (by rw [rw1.len, List.length_map])) (fun x => some (decide (z ∈ [x.one, x.oth]))) (SV V.bl) (fun _ h => h) nD (by omega) (fun H1 s1 => .inl (.inl (s1 _ _ upd_same))) ?_ ?_
        · rintro i x v H1 H1' ex s1 ⟨rfl, hv⟩ Good Bad kt kf
          obtain ⟨t, rfl, ht⟩ := rows_at rw1 hv ex
          refine ⟨rfl, yes_i (iteT ⟨_, rfl, _, rfl, 2, rfl, t, _, rfl, .inl (.inl (s1 _ _ (s3 _ _ ht))), (by rintro ⟨_, e⟩; cases e), fun u nu => ⟨u, _, rfl, .inr (.inl (.inl upd_same)), rfl, rfl, ?_⟩⟩)⟩
          refine kt _ _ _ rfl (same_upd nu) ?_
          show V.bl (inV (.str z) ([x.one, x.oth].map V.str)) = _
          rw [in_strs]
        · intro H4 acc s4 d4 p4
          have ea := paired_enc p4
          rw [fm_map] at ea
          subst ea
          refine ⟨D, _, rfl, .inl (.inl d4), ?_⟩
          rw [List.any_map]
          exact q H4 ((sA.trans s3).trans s4)
/-! ### need_point, without, without_tie with what they refuse -/
def sp_woX (K : PySem.W.Frag) : Sp := fun vs H Q E => ∃ (p : Addr) (m : Md) (z : Str), vs = [.ref p, .str z] ∧ WebAt (CW K) H p m ∧ (¬ z ∈ m.pts ∨ z = "start" → Out H E (He.ga K "NoPoint") "NoPoint" "name" (.str z)) ∧
  (z ∈ m.pts → ¬ z = "start" → usedB m z = true → Out H E (He.ga K "Used") "Used" "name" (.str z)) ∧
  (z ∈ m.pts → ¬ z = "start" → usedB m z = false → ∀ (q : Addr) (H' : Hp), Same H H' → H q = none → WebAt (CW K) H' q (m.drp z) → Q (.ref q) H')
theorem metx_Web_without (T : Tp K mg) : MetX P w K mg base 6 (CW K) "without" (sp_woX K) := by
  obtain ⟨fd, F⟩ := f_Web_without T
  refine metx_of F (cl_Web T) (me_Web_without T) (b_Web_without F) sc_Web_without (fun vs H Q E h => ?_) (fun cdv A outer s H vs Q E hr h tk => ?_)
  · obtain ⟨p, m, z, rfl, _⟩ := h
    rfl
  · obtain ⟨p, m, z, rfl, W, o1, o2, q⟩ := h
    refine ⟨_, (pss_cons (ps_expr (pe_cx (calx_need_point T) tk (fun _ _ _ _ h ↦ h) hr (by decide) rfl (pa_cons (pv 0) (pa_cons (pv 1) pa_nil))))
      (pss_cons (ps_if (pt_cmpR op_eq (pv 1) (C8.pe_gc (by rfl) (c_START T)) (nomark _)) (pss_one (ps_raise rfl tk (pmk_b (mkx_NoPoint T) hr (by decide) rfl (pa_cons (pv 1) pa_nil)))) pss_nil)
      (pss_cons (ps_if (pt_val (C8.pe_c (cal_is_used T) hr (by decide) rfl (pa_cons (pv 0) (pa_cons (pv 1) pa_nil)))) (pss_one (ps_raise rfl tk (pmk_b (mkx_Used T) hr (by decide) rfl (pa_cons (pv 1) pa_nil)))) pss_nil)
      (pss_cons (ps_setLc (i := 2) (own := [("moment", 4)]) (g := gName 4) rfl sc_Web_without.nd rfl rfl (sw_true rfl rfl rfl (by decide +kernel)) (pi_tup (pe_fld (pv 0) rfl)) (blkOk_by (N := N_Web_without) (sc := defScope s_Web_without) (by decide +kernel)) (fun _ _ _ _ _ => (pg_name (i := 4) sc_Web_without.nd rfl (.inl rfl))) (fun _ _ _ _ _ => (pts_one (pt_cmpR op_ne (pv 4) (pv 1) (nomark _)))) (fun _ _ _ _ _ => (pv 4)))
      (pss_cons (ps_setLc (i := 3) (own := [("span", 5)]) (g := gName 5) rfl sc_Web_without.nd rfl rfl (sw_true rfl rfl rfl (by decide +kernel)) (pi_tup (pe_fld (pv 0) rfl)) (blkOk_by (N := N_Web_without) (sc := defScope s_Web_without) (by decide +kernel)) (fun _ _ _ _ _ => (pg_name (i := 5) sc_Web_without.nd rfl (.inl rfl))) (fun _ _ _ _ _ => (pts_one (pt_cmpR op_ne (pe_ix (ix_tupK (K := K) rfl) (pv 5) pe_int (fun _ _ => rfl)) (pv 1) (nomark _)))) (fun _ _ _ _ _ => (pv 5)))
      (pss_one (ps_ret (C8.pe_c (cal_wovenL T) hr (by decide) rfl (pa_cons (pe_fld (pv 0) rfl) (pa_cons (pv 2) (pa_cons (pv 3) (pa_cons (pe_fld (pv 0) rfl) pa_nil)))))))))))), ?_⟩
    refine ⟨_, rfl, _, rfl, p, m, z, rfl, W, fun hz => o1 (.inl hz), fun hz H1 s1 => ?_⟩
    refine ⟨_, rfl, rfl, _, rfl, ?_⟩
    by_cases hs : z = "start"
    · rw [decide_eq_true (show V.str z = V.str "start" by rw [hs])]
      exact iteT ⟨_, rfl, mk_out ((o1 (.inr hs)).same s1)⟩
    · rw [decide_eq_false (show ¬ V.str z = V.str "start" from fun e => hs (V.str.inj e))]
      refine iteF ⟨_, rfl, _, rfl, p, m, z, rfl, W.same s1, fun H2 s2 => ⟨_, rfl, ?_⟩⟩
      cases hu : usedB m z with
      | true => exact iteT ⟨_, rfl, mk_out ((o2 hz hs hu).same (s1.trans s2))⟩
      | false =>
        have q := q hz hs hu
        refine iteF ?_
        have W2 := (W.same s1).same s2
        have hlen := W2.len
        obtain ⟨dx, a, b, c, ws, bs, h1, h2, h3, h4, h5, h6⟩ := W2.ex
        refine ⟨_, rfl, p, CW K, dx, _, _, rfl, h1, cl_Web T, na_moment_rows T, wf_m, a, rfl, ⟨_, .inl (.inl h2)⟩, fun D nD => ?_⟩
        refine lc_pure m.own (walk_tupN (xs := m.own.map V.str) (by rw [List.length_map])) (fun x => if (!decide (x = z)) = true then some x else none) (SV V.str) (fun _ h => h) nD (by omega) (fun H1 s1 => .inl (.inl (s1 _ _ h2))) ?_ ?_
        · rintro i x v H3 H3' ex s3 ⟨rfl, hv⟩ Good Bad kt kf
          rw [List.getElem?_map, ex] at hv
          cases hv
          refine ⟨rfl, _, rfl, _, rfl, rfl, _, rfl, ?_⟩
          have ed : decide (V.str x = V.str z) = decide (x = z) := by simp
          rw [ed]
          cases e : !decide (x = z) with
          | true => exact iteT ⟨_, rfl, kt _ _ _ (by rw [if_pos e]) (Same.refl _) rfl⟩
          | false => exact iteF (kf (by rw [if_neg (by rw [e]; simp)]) _ (Same.refl _))
        · intro H3 acc s3 d3 p3
          have ea := paired_enc p3
          rw [fm_filter] at ea
          subst ea
          have h1' := s3 _ _ h1
          refine ⟨_, rfl, p, CW K, dx, _, _, rfl, h1', cl_Web T, na_span_rows T, wf_s, b, rfl, ⟨_, .inl (.inl (s3 _ _ h3))⟩, fun L nL => ?_⟩
          refine lc_pure m.wd (walk_tupN (xs := ws) (by rw [h4.len, List.length_map])) (fun x => if (!decide (x.en = z)) = true then some x else none) (SR Wd.row) sr_k nL (by omega) (fun H1 s1 => .inl (.inl (s1 _ _ (s3 _ _ h3)))) ?_ ?_
          · rintro i x v H4 H4' ex s4 ⟨rfl, hv⟩ Good Bad kt kf
            obtain ⟨t, rfl, ht⟩ := rows_at h4 hv ex
            have ht' := s4 _ _ (s3 _ _ ht)
            refine ⟨rfl, _, rfl, t, _, 0, _, rfl, rfl, .inl (.inl ht'), atI_nat (j := 0) rfl, _, rfl, rfl, _, rfl, ?_⟩
            have ed : decide (V.str x.en = V.str z) = decide (x.en = z) := by simp
            rw [ed]
            cases e : !decide (x.en = z) with
            | true => exact iteT ⟨_, rfl, kt _ _ _ (by rw [if_pos e]) (Same.refl _) ⟨t, rfl, ht'⟩⟩
            | false => exact iteF (kf (by rw [if_neg (by rw [e]; simp)]) _ (Same.refl _))
          · intro H4 acc s4 d4 p4
            rw [fm_filter] at p4
            have r4 := paired_rows p4
            have sB := s3.trans s4
            have h1' := sB _ _ h1
            refine ⟨_, rfl, p, CW K, dx, _, _, rfl, h1', cl_Web T, na_by T, wf_by, _, rfl, _, rfl, _, rfl, p, CW K, dx, _, _, rfl, h1', cl_Web T, na_tie_rows T, wf_t, ?_⟩
            have l1 : (m.drp z).own.length ≤ m.own.length := List.length_filter_le _ _
            have l2 : (m.drp z).wd.length ≤ m.wd.length := List.length_filter_le _ _
            refine ⟨m.drp z, D, L, c, acc, bs, rfl, s4 _ _ d3, d4, r4, sB _ _ h5, h6.keep (Kt.of sB), ⟨by omega, by omega, hlen.2.2⟩, W.last, fun y H5 s5 ny W5 => ?_⟩
            have sC := (s1.trans s2).trans sB
            exact q y H5 (sC.trans s5) (sC.free ny) W5
def sp_wtX (K : PySem.W.Frag) : Sp := fun vs H Q E => ∃ (p : Addr) (m : Md) (v : V), vs = [.ref p, v] ∧ WebAt (CW K) H p m ∧ (plK v).isSome = true ∧ (whB 0 ((m.bd.length : Int) - 1) v = false → Out H E (He.ga K "NoTie") "NoTie" "at" v) ∧
  (∀ i : Nat, v = .int i → i < m.bd.length → ∀ (q : Addr) (H' : Hp), Same H H' → H q = none → WebAt (CW K) H' q (m.unt i) → Q (.ref q) H')
theorem metx_Web_without_tie (T : Tp K mg) : MetX P w K mg base 6 (CW K) "without_tie" (sp_wtX K) := by
  obtain ⟨fd, F⟩ := f_Web_without_tie T
  refine metx_of F (cl_Web T) (me_Web_without_tie T) (b_Web_without_tie F) sc_Web_without_tie (fun vs H Q E h => ?_) (fun cdv A outer s H vs Q E hr h tk => ?_)
  · obtain ⟨p, m, v, rfl, _⟩ := h
    rfl
  · obtain ⟨p, m, v, rfl, W, hv, o, q⟩ := h
    have hlen := W.len
    obtain ⟨dx, a, b, c, ws, bs, h1, h2, h3, h4, h5, h6⟩ := W.ex
    have hb : bs.length = m.bd.length := by rw [h6.len, List.length_map]
    refine ⟨_, (pss_cons (ps_if (pt_not (pt_val (C8.pe_c (cal_iswh T) hr (by decide) rfl (pa_cons (pv 1) (pa_cons pe_int (pa_cons (pe_op op_sub (pe_callB call_len_seq (by rfl) (z_len T) bb_len (pa_cons (pe_fld (pv 0) rfl) pa_nil)) pe_int) pa_nil)))))) (pss_one (ps_raise rfl tk (pmk_b (mkx_NoTie T) hr (by decide) rfl (pa_cons (pv 1) pa_nil)))) pss_nil)
      (pss_cons (ps_set (i := 2) sc_Web_without_tie.nd rfl (.inl rfl) (pe_op op_catU (pe_slice sl_tupU (pe_fld (pv 0) rfl) po_none (po_some (pv 1))) (pe_slice sl_tupU (pe_fld (pv 0) rfl) (po_some (pe_op op_add (pv 1) pe_int)) po_none)))
      (pss_one (ps_ret (C8.pe_c (cal_woven T) hr (by decide) rfl (pa_cons (pe_fld (pv 0) rfl) (pa_cons (pe_fld (pv 0) rfl) (pa_cons (pe_fld (pv 0) rfl) (pa_cons (pv 2) pa_nil))))))))), ?_⟩
    refine ⟨_, rfl, _, rfl, p, CW K, dx, _, _, rfl, h1, cl_Web T, na_tie_rows T, wf_t, c, _, rfl, .inr (.inl (.inl h5)), _, 1, rfl, rfl, v, 0, _, rfl, hv, _, rfl, ?_⟩
    rw [hb]
    cases hw : whB 0 ((m.bd.length : Int) - 1) v with
    | false => exact iteT ⟨_, rfl, mk_out (o hw)⟩
    | true =>
      obtain ⟨i, rfl, hi⟩ : ∃ i : Nat, v = .int i ∧ i < m.bd.length := by
        cases v with
        | int j =>
          have hj := of_decide_eq_true (show decide (0 ≤ j ∧ j ≤ (m.bd.length : Int) - 1) = true from hw)
          exact ⟨j.toNat, by rw [Int.toNat_of_nonneg hj.1], by omega⟩
        | non => cases hw
        | bl b => cases hw
        | str z => cases hw
        | byt b => cases hw
        | flt b => cases hw
        | ref b => cases hw
        | ty b => cases hw
      refine iteF ?_
      refine ⟨_, rfl, p, CW K, dx, _, _, rfl, h1, cl_Web T, na_tie_rows T, wf_t, _, rfl, i, rfl, c, bs, rfl, h5, fun t1 H1 s1 e1 => ?_⟩
      have h1' := s1 _ _ h1
      refine ⟨_, rfl, p, CW K, dx, _, _, rfl, h1', cl_Web T, na_tie_rows T, wf_t, _, rfl, _, _, rfl, rfl, _, rfl, c, bs, rfl, s1 _ _ h5, fun t2 H2 s2 e2 => ?_⟩
      have ct := cut_erase (xs := bs) (i := i) (by omega)
      refine ⟨t1, t2, _, _, rfl, rfl, s2 _ _ e1, e2, ?_, fun u H3 s3 eu => ?_⟩
      · rw [← List.length_append, ct, List.length_eraseIdx]
        split
        · exact Nat.le_of_lt (small1000 (by omega))
        · exact Nat.le_of_lt (small1000 (by omega))
      · rw [ct] at eu
        have sA := (s1.trans s2).trans s3
        have h1'' := sA _ _ h1
        refine ⟨_, rfl, p, CW K, dx, _, _, rfl, h1'', cl_Web T, na_by T, wf_by, _, rfl, p, CW K, dx, _, _, rfl, h1'', cl_Web T, na_moment_rows T, wf_m, _, rfl, p, CW K, dx, _, _, rfl, h1'', cl_Web T, na_span_rows T, wf_s, _, rfl, ?_⟩
        have r' : Rows H3 (bs.eraseIdx i) ((m.unt i).bd.map Bd.row) := by
          show Rows _ _ ((m.bd.eraseIdx i).map Bd.row)
          rw [erase_mapX]
          exact (h6.keep (Kt.of sA)).erase i
        refine ⟨m.unt i, a, b, u, ws, _, rfl, sA _ _ h2, sA _ _ h3, h4.keep (Kt.of sA), eu, r', ⟨hlen.1, hlen.2.1, ?_⟩, W.last, fun y H5 s5 ny W5 => q i rfl hi y H5 (sA.trans s5) (sA.free ny) W5⟩
        show (m.bd.eraseIdx i).length ≤ 40
        rw [List.length_eraseIdx]
        split <;> omega
theorem met_Web_without (T : Tp K mg) : Met P w K mg base 6 (CW K) "without" (fun vs H Q _ => sp_woX K vs H Q E0) := (metx_Web_without T).calm
theorem met_Web_without_tie (T : Tp K mg) : Met P w K mg base 6 (CW K) "without_tie" (fun vs H Q _ => sp_wtX K vs H Q E0) := (metx_Web_without_tie T).calm
end
end Tw

set_option maxHeartbeats 4000000
namespace Tw
open PySem PySem.Spec PyProof.Rows L2
/-! web.py: webs compared; another last tick, good or bad -/
/-- a value of a web's rows -/
def rowV : V → Bool
  | .non => true
  | .int _ => true
  | .str z => PyData.canLay0 (.str z)
  | _ => false
theorem rowV_ok : ∀ {v : V}, rowV v = true → okV v = true
  | .non, _ => rfl
  | .int _, _ => rfl
  | .str _, h => h
theorem all_ok : ∀ {r : List V}, r.all rowV = true → r.all okV = true
  | [], _ => rfl
  | v :: r, h => by
    rw [List.all_cons, Bool.and_eq_true] at h ⊢
    exact ⟨rowV_ok h.1, all_ok h.2⟩
theorem eqv_rowV : ∀ {v u : V}, rowV v = true → rowV u = true → (PyData.eqv (pd v) (pd u) = true ↔ v = u)
  | .non, .non, _, _ => ⟨fun _ => rfl, fun _ => rfl⟩
  | .non, .int _, _, _ => ⟨(fun h => nomatch h), (fun h => nomatch h)⟩
  | .non, .str _, _, _ => ⟨(fun h => nomatch h), (fun h => nomatch h)⟩
  | .int _, .non, _, _ => ⟨(fun h => nomatch h), (fun h => nomatch h)⟩
  | .int i, .int j, _, _ => ⟨fun h => congrArg V.int (eq_of_beq h), fun h => beq_iff_eq.2 (V.int.inj h)⟩
  | .int _, .str _, _, _ => ⟨(fun h => nomatch h), (fun h => nomatch h)⟩
  | .str _, .non, _, _ => ⟨(fun h => nomatch h), (fun h => nomatch h)⟩
  | .str _, .int _, _, _ => ⟨(fun h => nomatch h), (fun h => nomatch h)⟩
  | .str i, .str j, _, _ => ⟨fun h => congrArg V.str (eq_of_beq h), fun h => beq_iff_eq.2 (V.str.inj h)⟩
theorem eqv_rowVs : ∀ {r q : List V}, r.all rowV = true → q.all rowV = true → (PyData.eqvAll (r.map pd) (q.map pd) = true ↔ r = q)
  | [], [], _, _ => ⟨fun _ => rfl, fun _ => rfl⟩
  | [], _ :: _, _, _ => ⟨(fun h => nomatch h), (fun h => nomatch h)⟩
  | _ :: _, [], _, _ => ⟨(fun h => nomatch h), (fun h => nomatch h)⟩
  | v :: r, u :: q, h, g => by
    rw [List.all_cons, Bool.and_eq_true] at h g
    show ((PyData.eqv (pd v) (pd u) && PyData.eqvAll (r.map pd) (q.map pd)) = true) ↔ _
    rw [Bool.and_eq_true, eqv_rowV h.1 g.1, eqv_rowVs h.2 g.2, List.cons.injEq]
theorem eqv_rowRs : ∀ {r q : List (List V)}, (∀ x ∈ r, x.all rowV = true) → (∀ x ∈ q, x.all rowV = true) → (PyData.eqvAll (r.map pdR) (q.map pdR) = true ↔ r = q)
  | [], [], _, _ => ⟨fun _ => rfl, fun _ => rfl⟩
  | [], _ :: _, _, _ => ⟨(fun h => nomatch h), (fun h => nomatch h)⟩
  | _ :: _, [], _, _ => ⟨(fun h => nomatch h), (fun h => nomatch h)⟩
  | v :: r, u :: q, h, g => by
    show ((PyData.eqvAll (v.map pd) (u.map pd) && PyData.eqvAll (r.map pdR) (q.map pdR)) = true) ↔ _
    rw [Bool.and_eq_true, eqv_rowVs (h v List.mem_cons_self) (g u List.mem_cons_self), eqv_rowRs (fun x hx => h x (List.mem_cons_of_mem _ hx)) (fun x hx => g x (List.mem_cons_of_mem _ hx)), List.cons.injEq]
theorem shaped_tup {rs : List (List V)} (h : ∀ r ∈ rs, r.all okV = true) : SeqAt.shaped (.tuple (rs.map pdR)) = true := by
  unfold SeqAt.shaped
  rw [Bool.and_eq_true]
  refine ⟨can_rows h, decide_eq_true ?_⟩
  show PyData.depthAll (rs.map pdR) + 1 ≤ 64
  have := depth_rows rs
  omega
theorem shaped_tup1 {r : List V} (h : r.all okV = true) : SeqAt.shaped (.tuple (r.map pd)) = true := by
  unfold SeqAt.shaped
  rw [Bool.and_eq_true]
  refine ⟨can_all h, decide_eq_true ?_⟩
  show PyData.depthAll (r.map pd) + 1 ≤ 64
  rw [depth_all]
  decide
/-- a web whose names can be laid -/
structure Laid (m : Md) : Prop where
  own : (m.own.map V.str).all rowV = true
  wd : ∀ r ∈ m.wd.map Wd.row, r.all rowV = true
  bd : ∀ r ∈ m.bd.map Bd.row, r.all rowV = true
theorem oV_injW {a b : Option Int} (h : oV a = oV b) : a = b := by
  cases a <;> cases b
  · rfl
  · cases h
  · cases h
  · cases h
    rfl
theorem wrow_inj {x y : Wd} (h : Wd.row x = Wd.row y) : x = y := by
  cases x; cases y
  unfold Wd.row at h
  simp only [List.cons.injEq, V.str.injEq, V.int.injEq, and_true] at h
  obtain ⟨rfl, rfl, rfl, rfl, h⟩ := h
  cases oV_injW h
  rfl
theorem brow_inj {x y : Bd} (h : Bd.row x = Bd.row y) : x = y := by
  cases x; cases y
  unfold Bd.row at h
  simp only [List.cons.injEq, V.str.injEq, and_true] at h
  obtain ⟨rfl, rfl, h1, h2⟩ := h
  cases oV_injW h1
  cases oV_injW h2
  rfl
theorem map_inj2 {α β : Type} {f : α → β} (hf : ∀ x y, f x = f y → x = y) : ∀ {l q : List α}, l.map f = q.map f → l = q
  | [], [], _ => rfl
  | [], _ :: _, h => nomatch h
  | _ :: _, [], h => nomatch h
  | a :: l, b :: q, h => by
    rw [List.map_cons, List.map_cons, List.cons.injEq] at h
    rw [hf _ _ h.1, map_inj2 hf h.2]
theorem md_eq {m n : Md} : m = n ↔ m.last = n.last ∧ m.own.map V.str = n.own.map V.str ∧ m.wd.map Wd.row = n.wd.map Wd.row ∧ m.bd.map Bd.row = n.bd.map Bd.row := by
  constructor
  · rintro rfl
    exact ⟨rfl, rfl, rfl, rfl⟩
  · rintro ⟨h1, h2, h3, h4⟩
    cases m; cases n
    dsimp only at h1 h2 h3 h4
    rw [h1, map_inj2 (fun _ _ e => V.str.inj e) h2, map_inj2 (fun _ _ => wrow_inj) h3, map_inj2 (fun _ _ => brow_inj) h4]
theorem eq_tup1 {K : PySem.W.Frag} {H : Hp} {a b : Addr} {r q : List V} {Q : VK} (ha : H a = some (.tup r)) (hb : H b = some (.tup q)) (hr : r.all rowV = true) (hq : q.all rowV = true) (yes : r = q → Q (.bl true) H) (no : r ≠ q → Q (.bl false) H) : rEqD K (.ref a) (.ref b) H Q := by
  refine ⟨.tuple (r.map pd), .tuple (q.map pd), .tup (.inl (.inl ha)) (dp_all (all_ok hr)), .tup (.inl (.inl hb)) (dp_all (all_ok hq)), shaped_tup1 (all_ok hr), shaped_tup1 (all_ok hq), ?_⟩
  have e := eqv_rowVs hr hq
  show Q (.bl (PyData.eqvAll (r.map pd) (q.map pd))) H
  cases hc : PyData.eqvAll (r.map pd) (q.map pd) with
  | true => exact yes (e.1 hc)
  | false => exact no fun z => by rw [e.2 z] at hc; cases hc
theorem eq_tupR {K : PySem.W.Frag} {H : Hp} {a b : Addr} {xs ys : List V} {r q : List (List V)} {Q : VK} (ha : H a = some (.tup xs)) (hb : H b = some (.tup ys)) (ra : Rows H xs r) (rb : Rows H ys q) (hr : ∀ x ∈ r, x.all rowV = true) (hq : ∀ x ∈ q, x.all rowV = true) (yes : r = q → Q (.bl true) H) (no : r ≠ q → Q (.bl false) H) : rEqD K (.ref a) (.ref b) H Q := by
  have h1 : ∀ x ∈ r, x.all okV = true := fun x hx => all_ok (hr x hx)
  have h2 : ∀ x ∈ q, x.all okV = true := fun x hx => all_ok (hq x hx)
  refine ⟨.tuple (r.map pdR), .tuple (q.map pdR), .tup (.inl (.inl ha)) (dp_rows ra h1), .tup (.inl (.inl hb)) (dp_rows rb h2), shaped_tup h1, shaped_tup h2, ?_⟩
  have e := eqv_rowRs hr hq
  show Q (.bl (PyData.eqvAll (r.map pdR) (q.map pdR))) H
  cases hc : PyData.eqvAll (r.map pdR) (q.map pdR) with
  | true => exact yes (e.1 hc)
  | false => exact no fun z => by rw [e.2 z] at hc; cases hc
section
variable {P : Program} {w : World} {K : PySem.W.Frag} {mg : Str → Option Value} {base : Heap}
/-! ### == -/
def sp_weq (K : PySem.W.Frag) : Sp := fun vs H Q _ => ∃ (p q : Addr) (m n : Md), vs = [.ref p, .ref q] ∧ WebAt (CW K) H p m ∧ WebAt (CW K) H q n ∧ Laid m ∧ Laid n ∧ (m = n → Q (.bl true) H) ∧ (m ≠ n → Q (.bl false) H)
theorem met_Web_UeqU (T : Tp K mg) : Met P w K mg base 2 (CW K) "__eq__" (sp_weq K) := by
  obtain ⟨fd, F⟩ := f_Web_UeqU T
  refine met_of F (cl_Web T) (me_Web_UeqU T) (b_Web_UeqU F) sc_Web_UeqU (fun vs H Q E h => ?_) (fun cdv A outer s H vs Q E hr h => ?_)
  · obtain ⟨p, q, m, n, rfl, _⟩ := h
    rfl
  · obtain ⟨p, q, m, n, rfl, W, V', lm, ln, yes, no⟩ := h
    have hu64 := hr.units
    obtain ⟨dx, a, b, c, ws, bs, h1, h2, h3, h4, h5, h6⟩ := W.ex
    obtain ⟨dy, a', b', c', ws', bs', g1, g2, g3, g4, g5, g6⟩ := V'.ex
    rw [md_eq] at yes
    rw [Ne, md_eq] at no
    refine ⟨_, (pss_one (ps_ret (pe_and (pe_callB call_isi (by rfl) (z_isinstance T) bb_isinstance (pa_cons (pv 1) (pa_cons (pe_glob (v := .ref (He.ga K "Web")) (by rfl) (g_Web T) rfl) pa_nil))) (pe_and (pe_cmpR op_eq (pe_fld (pv 0) rfl) (pe_fld (pv 1) rfl) (nomark _)) (pe_and (pe_cmpR (op_eqD hu64) (pe_fld (pv 0) rfl) (pe_fld (pv 1) rfl) (nomark _)) (pe_and (pe_cmpR (op_eqD hu64) (pe_fld (pv 0) rfl) (pe_fld (pv 1) rfl) (nomark _)) (pe_one (pe_cmpR (op_eqD hu64) (pe_fld (pv 0) rfl) (pe_fld (pv 1) rfl) (nomark _))))))))), ?_⟩
    refine ⟨_, rfl, .ref q, .ref (He.ga K "Web"), .ref (He.ga K "Web"), .ref (He.ga K "Web"), true, rfl, .own _, .base (.ins g1 (cl_Web T) (ti0_Web T) (ti1_Web T) (ti2_Web T) (ti3_Web T)), ?_, ?_⟩
    · unfold PySem.W.kitOne
      rw [if_pos (by simp)]
    refine ⟨_, rfl, iteT ?_⟩
    refine ⟨_, rfl, p, CW K, dx, _, _, rfl, h1, cl_Web T, na_by T, wf_by, _, rfl, q, CW K, dy, _, _, rfl, g1, cl_Web T, na_by T, wf_by, rfl, ?_⟩
    by_cases e0 : m.last = n.last
    · rw [decide_eq_true (congrArg V.int e0)]
      refine ⟨_, rfl, iteT ?_⟩
      refine ⟨_, rfl, p, CW K, dx, _, _, rfl, h1, cl_Web T, na_moment_rows T, wf_m, _, rfl, q, CW K, dy, _, _, rfl, g1, cl_Web T, na_moment_rows T, wf_m, eq_tup1 h2 g2 lm.own ln.own (fun e1 => ⟨_, rfl, iteT ?_⟩) (fun n => ⟨_, rfl, iteF (no fun h => n h.2.1)⟩)⟩
      refine ⟨_, rfl, p, CW K, dx, _, _, rfl, h1, cl_Web T, na_span_rows T, wf_s, _, rfl, q, CW K, dy, _, _, rfl, g1, cl_Web T, na_span_rows T, wf_s, eq_tupR h3 g3 h4 g4 lm.wd ln.wd (fun e2 => ⟨_, rfl, iteT ?_⟩) (fun n => ⟨_, rfl, iteF (no fun h => n h.2.2.1)⟩)⟩
      exact ⟨_, rfl, p, CW K, dx, _, _, rfl, h1, cl_Web T, na_tie_rows T, wf_t, _, rfl, q, CW K, dy, _, _, rfl, g1, cl_Web T, na_tie_rows T, wf_t, eq_tupR h5 g5 h6 g6 lm.bd ln.bd (fun e3 => yes ⟨e0, e1, e2, e3⟩) (fun n => no fun h => n h.2.2.2)⟩
    · rw [decide_eq_false (fun e => e0 (V.int.inj e))]
      exact ⟨_, rfl, iteF (no fun h => e0 h.1)⟩
/-- a web is no list and no text -/
def sp_weqN (K : PySem.W.Frag) : Sp := fun vs H Q _ => ∃ (p : Addr) (m : Md) (v : V), vs = [.ref p, v] ∧ WebAt (CW K) H p m ∧ ((∃ z, v = .str z) ∨ ∃ l xs, v = .ref l ∧ H l = some (.lst xs)) ∧ Q (.bl false) H
theorem met_Web_UeqU_no (T : Tp K mg) : Met P w K mg base 2 (CW K) "__eq__" (sp_weqN K) := by
  obtain ⟨fd, F⟩ := f_Web_UeqU T
  refine met_of F (cl_Web T) (me_Web_UeqU T) (b_Web_UeqU F) sc_Web_UeqU (fun vs H Q E h => ?_) (fun cdv A outer s H vs Q E hr h => ?_)
  · obtain ⟨p, m, v, rfl, _⟩ := h
    rfl
  · obtain ⟨p, m, v, rfl, W, hv, no⟩ := h
    have hu64 := hr.units
    refine ⟨_, (pss_one (ps_ret (pe_and (pe_callB call_isi (by rfl) (z_isinstance T) bb_isinstance (pa_cons (pv 1) (pa_cons (pe_glob (v := .ref (He.ga K "Web")) (by rfl) (g_Web T) rfl) pa_nil))) (pe_and (pe_cmpR op_eq (pe_fld (pv 0) rfl) (pe_fld (pv 1) rfl) (nomark _)) (pe_and (pe_cmpR (op_eqD hu64) (pe_fld (pv 0) rfl) (pe_fld (pv 1) rfl) (nomark _)) (pe_and (pe_cmpR (op_eqD hu64) (pe_fld (pv 0) rfl) (pe_fld (pv 1) rfl) (nomark _)) (pe_one (pe_cmpR (op_eqD hu64) (pe_fld (pv 0) rfl) (pe_fld (pv 1) rfl) (nomark _))))))))), ?_⟩
    rcases hv with ⟨z, rfl⟩ | ⟨l, xs, rfl, hl⟩
    · exact ⟨_, rfl, .str z, .ref (He.ga K "Web"), .type "str", .ref (He.ga K "Web"), false, rfl, .own _, .base (.str z), kz_Web T, _, rfl, iteF no⟩
    · exact ⟨_, rfl, .ref l, .ref (He.ga K "Web"), .type "list", .ref (He.ga K "Web"), false, rfl, .own _, .base (.lst hl), kl_Web T, _, rfl, iteF no⟩
/-! ### another last tick -/
def Md.wby (m : Md) (l : Int) : Md := { m with last := l }
def sp_wby (K : PySem.W.Frag) : Sp := fun vs H Q _ => ∃ (p : Addr) (m : Md) (l : Int), vs = [.ref p, .int l] ∧ WebAt (CW K) H p m ∧ 1 ≤ l ∧ l ≤ 1000 ∧ ∀ (q : Addr) (H' : Hp), Same H H' → H q = none → WebAt (CW K) H' q (m.wby l) → Q (.ref q) H'
theorem met_Web_with_by (T : Tp K mg) : Met P w K mg base 6 (CW K) "with_by" (sp_wby K) := by
  obtain ⟨fd, F⟩ := f_Web_with_by T
  refine met_of F (cl_Web T) (me_Web_with_by T) (b_Web_with_by F) sc_Web_with_by (fun vs H Q E h => ?_) (fun cdv A outer s H vs Q E hr h => ?_)
  · obtain ⟨p, m, l, rfl, _⟩ := h
    rfl
  · obtain ⟨p, m, l, rfl, W, l1, l2, q⟩ := h
    obtain ⟨dx, a, b, c, ws, bs, h1, h2, h3, h4, h5, h6⟩ := W.ex
    refine ⟨_, (pss_one (ps_ret (C8.pe_c (cal_woven T) hr (by decide) rfl (pa_cons (pv 1) (pa_cons (pe_fld (pv 0) rfl) (pa_cons (pe_fld (pv 0) rfl) (pa_cons (pe_fld (pv 0) rfl) pa_nil))))))), ?_⟩
    refine ⟨_, rfl, _, rfl, p, CW K, dx, _, _, rfl, h1, cl_Web T, na_moment_rows T, wf_m, _, rfl, p, CW K, dx, _, _, rfl, h1, cl_Web T, na_span_rows T, wf_s, _, rfl, p, CW K, dx, _, _, rfl, h1, cl_Web T, na_tie_rows T, wf_t, ?_⟩
    exact ⟨m.wby l, a, b, c, ws, bs, rfl, h2, h3, h4, h5, h6, W.len, ⟨l1, l2⟩, q⟩
/-! ### a last tick that is none -/
def sp_iniX (K : PySem.W.Frag) : Sp := fun vs H Q E => ∃ (p : Addr) (v : V), vs = [.ref p, v] ∧ (plK v).isSome = true ∧ whB 1 1000 v = false ∧ Out H E (He.ga K "BadBy") "BadBy" "by" v
theorem fn_iniX (T : Tp K mg) {fd : FuncData} (F : FunD K "__init__" "Web.__init__" (defArgs s_Web_UinitU) (defBody s_Web_UinitU) (defScope s_Web_UinitU) [(V.int 100 : V)] [] (He.ma K (He.ga K "Web") "__init__") fd) :
    FnOk P w K mg base (L2.CX P w) 5 (He.ma K (He.ga K "Web") "__init__") fd ["self", "by"] (sp_iniX K) := by
  refine fnx_of F sc_Web_UinitU (fun vs H Q E h => ?_) (fun cdv A outer s H vs Q E hr h tk => ?_)
  · obtain ⟨p, v, rfl, _⟩ := h
    rfl
  · obtain ⟨p, v, rfl, hpl, wb, o⟩ := h
    refine ⟨_, (pss_cons (ps_if (pt_not (pt_val (C8.pe_c (cal_iswh T) hr (by decide) rfl (pa_cons (pv 1) (pa_cons pe_int (pa_cons (C8.pe_gc (by rfl) (c_MOST_BY T)) pa_nil)))))) (pss_one (ps_raise rfl tk (pmk_b (mkx_BadBy T) hr (by decide) rfl (pa_cons (pv 1) pa_nil)))) pss_nil)
      (pss_cons (ps_fld (pv 0) (pv 1) rfl)
      (pss_cons (ps_fld (pv 0) (pe_tup pa_nil) rfl)
      (pss_cons (ps_fld (pv 0) (pe_tup pa_nil) rfl)
      (pss_one (ps_fld (pv 0) (pe_tup pa_nil) rfl)))))), ?_⟩
    refine ⟨_, rfl, v, 1, 1000, rfl, hpl, _, rfl, ?_⟩
    rw [wb]
    exact iteT ⟨_, rfl, mk_out o⟩
structure MakX (P : Program) (w : World) (K : PySem.W.Frag) (mg : Str → Option Value) (base : Heap) (k : Nat) (x : Str) (C : Addr) (sp : Sp) : Prop where
  ex : ∃ (f : Addr) (fd : FuncData) (ps : List Str), Mk K C f ∧ FnOk P w K mg base (L2.CX P w) k f fd ps sp ∧ mg x = some (.ref C) ∧ ∃ ds, Vals [] ds ∧ Binds K fd ps ds
theorem pe_mkx {X : Cx} {k j : Nat} {C : Addr} {x : Str} {sp : Sp} {p pos : Pos} {e : Expr} {es : List Expr} {t : TA} {W : WX} {E : XK} (c : MakX X.prog X.w X.K X.mg X.base k x C sp) (tk : Takes X W) (hW : ∀ cls d σ H, E cls d H → W cls d σ H) (hr : Room j X.A) (hk : k + 1 ≤ j) (hg : Gl X x) (ha : PA X (e :: es) t) (form : Flat X x e es pos := by exact ⟨by decide, rfl, rfl⟩) :
    PE X (.Call (.Name x p) (e :: es) [] pos) (tMake C sp [] E t) :=
  let ⟨_, _, _, made, F, at_, _, d, b⟩ := c.ex
  pe_make made F (hr.mono hk) hg at_ b d (passes_call tk hW) ha form.dbg form.first form.plain
theorem makx_Web (T : Tp K mg) : MakX P w K mg base 5 "Web" (CW K) (sp_iniX K) := by
  obtain ⟨fd, F⟩ := f_Web_UinitU T
  obtain ⟨ds, hv, hb⟩ := F.binds1 (ps := ["self", "by"]) 2 1 (by simp) rfl fun T kV doc pm an cdv ct us its h1 h2 => match us, its, h1, h2 with
    | [_, _], [_], _, _ => ⟨_, rfl, rfl⟩
  exact ⟨_, fd, ["self", "by"], mk_Web T, fn_iniX T F, g_Web T, ds, hv, hb⟩
def sp_wovX (K : PySem.W.Frag) : Sp := fun vs H Q E => ∃ (v a b c : V), vs = [v, a, b, c] ∧ (plK v).isSome = true ∧ whB 1 1000 v = false ∧ Out H E (He.ga K "BadBy") "BadBy" "by" v
theorem calx_woven (T : Tp K mg) : CalX P w K mg base 7 "woven" (sp_wovX K) := by
  obtain ⟨fd, F⟩ := f_woven T
  refine calx_of F (g_woven T) (b_woven F) sc_woven (fun vs H Q E h => ?_) (fun cdv A outer s H vs Q E hr h tk => ?_)
  · obtain ⟨v, a, b, c, rfl, _⟩ := h
    rfl
  · obtain ⟨v, a, b, c, rfl, hpl, wb, o⟩ := h
    refine ⟨_, (pss_cons (ps_set (i := 4) sc_woven.nd rfl (.inl rfl) (pe_mkx (makx_Web T) tk (fun _ _ _ _ h ↦ h) hr (by decide) rfl (pa_cons (pv 0) pa_nil)))
      (pss_cons (ps_fld (pv 4) (pe_callTy call_tuple_of (by rfl) (z_tuple T) bb_tuple (pa_cons (pv 1) pa_nil)) rfl)
      (pss_cons (ps_fld (pv 4) (pe_callTy call_tuple_of (by rfl) (z_tuple T) bb_tuple (pa_cons (pv 2) pa_nil)) rfl)
      (pss_cons (ps_fld (pv 4) (pe_callTy call_tuple_of (by rfl) (z_tuple T) bb_tuple (pa_cons (pv 3) pa_nil)) rfl)
      (pss_one (ps_ret (pv 4))))))), ?_⟩
    exact ⟨_, rfl, fun x dx nx ndx ne => ⟨x, v, rfl, hpl, wb, Out.same o ((same_upd ndx).trans (same_upd (by rw [upd_ne ne.symm]; exact nx)))⟩⟩
def sp_wbyX (K : PySem.W.Frag) : Sp := fun vs H Q E => ∃ (p : Addr) (m : Md) (v : V), vs = [.ref p, v] ∧ WebAt (CW K) H p m ∧ (plK v).isSome = true ∧ whB 1 1000 v = false ∧ Out H E (He.ga K "BadBy") "BadBy" "by" v
theorem metx_Web_with_by (T : Tp K mg) : MetX P w K mg base 8 (CW K) "with_by" (sp_wbyX K) := by
  obtain ⟨fd, F⟩ := f_Web_with_by T
  refine metx_of F (cl_Web T) (me_Web_with_by T) (b_Web_with_by F) sc_Web_with_by (fun vs H Q E h => ?_) (fun cdv A outer s H vs Q E hr h tk => ?_)
  · obtain ⟨p, m, v, rfl, _⟩ := h
    rfl
  · obtain ⟨p, m, v, rfl, W, hpl, wb, o⟩ := h
    obtain ⟨dx, a, b, c, ws, bs, h1, h2, h3, h4, h5, h6⟩ := W.ex
    refine ⟨_, (pss_one (ps_ret (pe_cx (calx_woven T) tk (fun _ _ _ _ h ↦ h) hr (by decide) rfl (pa_cons (pv 1) (pa_cons (pe_fld (pv 0) rfl) (pa_cons (pe_fld (pv 0) rfl) (pa_cons (pe_fld (pv 0) rfl) pa_nil))))))), ?_⟩
    refine ⟨_, rfl, _, rfl, p, CW K, dx, _, _, rfl, h1, cl_Web T, na_moment_rows T, wf_m, _, rfl, p, CW K, dx, _, _, rfl, h1, cl_Web T, na_span_rows T, wf_s, _, rfl, p, CW K, dx, _, _, rfl, h1, cl_Web T, na_tie_rows T, wf_t, ?_⟩
    exact ⟨_, _, _, _, rfl, hpl, wb, o⟩
/-! ### Web(by=..) -/
theorem kb_Web {fd : FuncData} (F : FunD K "__init__" "Web.__init__" (defArgs s_Web_UinitU) (defBody s_Web_UinitU) (defScope s_Web_UinitU) [(V.int 100 : V)] [] (He.ma K (He.ga K "Web") "__init__") fd) :
    ∃ its : List Value, KBn K fd ["self", "by"] 1 [("by" : Str)] (fun us ws => us ++ ws) (fun vs zs => vs ++ zs) :=
  F.kbindsD 1 [("by" : Str)] (fun us _ ws => us ++ ws) (by simp) (fun r1 _ r3 => r1.append r3) fun T kV doc pm an cdv ct us its ws h1 h2 h3 => match us, its, ws, h1, h2, h3 with
    | [_], [_], [_], _, _, _ => ⟨_, rfl, rfl⟩
/-- a class of one value that is made by its name -/
structure MakK (P : Program) (w : World) (K : PySem.W.Frag) (mg : Str → Option Value) (base : Heap) (CX : CXT) (k : Nat) (x kn : Str) (C : Addr) (sp : Sp) : Prop where
  ex : ∃ (f : Addr) (fd : FuncData) (ps : List Str) (g : List Value → List Value → List Value), Mk K C f ∧ FnOk P w K mg base CX k f fd ps sp ∧ mg x = some (.ref C) ∧ KBn K fd ps 1 [kn] g (fun vs zs => vs ++ zs)
theorem makk_Web (T : Tp K mg) : MakK P w K mg base CX0 3 "Web" "by" (CW K) (sp_init K) := by
  obtain ⟨fd, F⟩ := f_Web_UinitU T
  obtain ⟨_, hb⟩ := kb_Web F
  exact ⟨_, fd, _, _, mk_Web T, fn_init T F, g_Web T, hb⟩
theorem makkx_Web (T : Tp K mg) : MakK P w K mg base (L2.CX P w) 5 "Web" "by" (CW K) (sp_iniX K) := by
  obtain ⟨fd, F⟩ := f_Web_UinitU T
  obtain ⟨_, hb⟩ := kb_Web F
  exact ⟨_, fd, _, _, mk_Web T, fn_iniX T F, g_Web T, hb⟩
theorem pe_wk {X : Cx} {j k : Nat} {C : Addr} {sp : Sp} {x kn : Str} {ke : Expr} {te : TE} {p pos kpos : Pos} (c : MakK X.prog X.w X.K X.mg X.base CX0 k x kn C sp) (hr : Room j X.A) (hj : k + 1 ≤ j) (hg : Gl X x) (he : PE X ke te) (hdb : (x == ("__debug__" : Str)) = false := by decide) :
    PE X (.Call (.Name x p) [] [⟨some kn, ke, kpos⟩] pos) (tMakeK C 0 1 sp (fun vs zs => vs ++ zs) E0 tNil (tCons te tNil)) := by
  obtain ⟨_, _, _, _, made, F, at_, hb⟩ := c.ex
  exact pe_makeK0 (ks := [kn]) made F (hr.mono hj) hg at_ hb pass0 (pk_cons he pk_nil) rfl rfl hdb rfl
theorem pe_wkx {X : Cx} {j k : Nat} {C : Addr} {sp : Sp} {x kn : Str} {ke : Expr} {te : TE} {p pos kpos : Pos} {W : WX} {E : XK} (c : MakK X.prog X.w X.K X.mg X.base (L2.CX X.prog X.w) k x kn C sp) (ta : Takes X W) (hW : ∀ cls d σ H, E cls d H → W cls d σ H) (hr : Room j X.A) (hj : k + 1 ≤ j) (hg : Gl X x) (he : PE X ke te) (hdb : (x == ("__debug__" : Str)) = false := by decide) :
    PE X (.Call (.Name x p) [] [⟨some kn, ke, kpos⟩] pos) (tMakeK C 0 1 sp (fun vs zs => vs ++ zs) E tNil (tCons te tNil)) := by
  obtain ⟨_, _, _, _, made, F, at_, hb⟩ := c.ex
  exact pe_makeK0 (ks := [kn]) made F (hr.mono hj) hg at_ hb (passes_call ta hW) (pk_cons he pk_nil) rfl rfl hdb rfl
end
end Tw

set_option maxHeartbeats 4000000
namespace Tw
open PySem PySem.Spec PyProof.Rows L2
/-! ### the law's flow of numbers -/
structure Flow (H : Hp) (f c : Addr) : Prop where
  ex : ∃ (ns : List Int) (i r st : Int), H f = some (.lst [.ref c, .int i, .int r, .int st]) ∧ H c = some (.lst (ns.map V.int)) ∧ 0 ≤ i ∧ 0 ≤ r ∧ 0 ≤ st ∧ st < 2147483647
theorem Flow.lst {H : Hp} {f c : Addr} (h : Flow H f c) : ∃ xs, H f = some (.lst xs) := let ⟨_, _, _, _, e, _⟩ := h.ex; ⟨_, e⟩
theorem Flow.cells {H : Hp} {f c : Addr} (h : Flow H f c) : ∃ xs, H c = some (.lst xs) := let ⟨_, _, _, _, _, e, _⟩ := h.ex; ⟨_, e⟩
theorem Flow.keep {H H' : Hp} {f c : Addr} (h : Flow H f c) (h1 : ∀ o, H f = some o → H' f = some o) (h2 : ∀ o, H c = some o → H' c = some o) : Flow H' f c := by
  obtain ⟨ns, i, r, st, e1, e2, e3⟩ := h.ex
  exact ⟨ns, i, r, st, h1 _ e1, h2 _ e2, e3⟩
theorem Flow.same {H H' : Hp} {f c : Addr} (h : Flow H f c) (s : Same H H') : Flow H' f c := h.keep (fun _ e => s _ _ e) (fun _ e => s _ _ e)
theorem Flow.upd {H : Hp} {f c p : Addr} {o : HO} (h : Flow H f c) (n1 : f ≠ p) (n2 : c ≠ p) : Flow (upd H p o) f c := h.keep (fun _ e => by rw [upd_ne n1]; exact e) (fun _ e => by rw [upd_ne n2]; exact e)
theorem flow_ne {H : Hp} {f c : Addr} {i r st : Int} {ns : List Int} (h1 : H f = some (.lst [.ref c, .int i, .int r, .int st])) (h2 : H c = some (.lst (ns.map V.int))) : c ≠ f := by
  refine ne_of h2 h1 fun e => ?_
  have e := HO.lst.inj e
  cases ns with
  | nil => cases e
  | cons x l =>
    have e1 := (List.cons.inj e).1
    cases e1
theorem Flow.put {H : Hp} {f c : Addr} {i r st : Int} {ns : List Int} (h1 : H f = some (.lst [.ref c, .int i, .int r, .int st])) (h2 : H c = some (.lst (ns.map V.int))) {i' r' st' : Int} (a : 0 ≤ i') (b : 0 ≤ r') (d : 0 ≤ st') (e : st' < 2147483647) :
    Flow (L2.upd H f (.lst [.ref c, .int i', .int r', .int st'])) f c := ⟨ns, i', r', st', upd_same, by rw [upd_ne (flow_ne h1 h2)]; exact h2, a, b, d, e⟩
theorem cut_ints (ns : List Int) (lo hi : Option Int) : ∃ ms : List Int, cutV (ns.map V.int) lo hi = ms.map V.int := by
  unfold cutV
  refine ⟨(ns.drop (HT.sIx (ns.map V.int).length 0 lo)).take (HT.sIx (ns.map V.int).length (ns.map V.int).length hi - HT.sIx (ns.map V.int).length 0 lo), ?_⟩
  rw [List.map_take, List.map_drop]
theorem fm_lo (x : Int) {n : Int} (h : 0 < n) : 0 ≤ x.fmod n := by
  rw [Int.fmod_eq_emod_of_nonneg _ (Int.le_of_lt h)]
  exact Int.emod_nonneg _ (Int.ne_of_gt h)
theorem fm_hi (x : Int) {n : Int} (h : 0 < n) : x.fmod n < n := by
  rw [Int.fmod_eq_emod_of_nonneg _ (Int.le_of_lt h)]
  exact Int.emod_lt_of_pos _ h
theorem fd_lo {x n : Int} (hx : 0 ≤ x) (h : 0 < n) : 0 ≤ x.fdiv n := by
  rw [Int.fdiv_eq_ediv_of_nonneg _ (Int.le_of_lt h)]
  exact Int.ediv_nonneg hx (Int.le_of_lt h)
theorem abs_lo (x : Int) : (0 : Int) ≤ if x < 0 then -x else x := by
  split <;> omega
section
variable {P : Program} {w : World} {K : PySem.W.Frag} {mg : Str → Option Value} {base : Heap}
def CDivX (_ j : Int) : Prop := j ≠ 0 ∧ j.natAbs.log2 < 9000
theorem op_fdivX {X : Cx} : OpR X (binaryOp .FloorDiv) (rI CDivX fun i j => .int (i.fdiv j)) := opI fun _ _ _ _ _ _ _ hc q => floordiv_int hc.1 q (.inl (PyProof.noPylong_of_log2 hc.2))
theorem big_log {n : Int} (h1 : n < 1606938044258990275541962092341162602522202993782792835301376) (h0 : 0 < n) : n.natAbs.log2 < 9000 := by
  have h : n.natAbs < 2 ^ 200 := by
    have e : (2 : Nat) ^ 200 = 1606938044258990275541962092341162602522202993782792835301376 := by decide +kernel
    rw [e]
    omega
  exact Nat.lt_trans ((Nat.log2_lt (by omega)).mpr h) (by decide)
def sp_flow (K : PySem.W.Frag) : Sp := fun vs H Q _ => ∃ (a : Addr) (ns : List Int), vs = [.ref a] ∧ SqL K H a (ns.map V.int) ∧ ∀ (f c : Addr) (H' : Hp), Same H H' → H f = none → H c = none → Flow H' f c → Q (.ref f) H'
theorem cal__law_flow (T : Tp K mg) : Cal P w K mg base 2 "_law_flow" (sp_flow K) := by
  obtain ⟨fd, F⟩ := f__law_flow T
  refine cal_of F (g__law_flow T) (b__law_flow F) sc__law_flow (fun vs H Q E h => ?_) (fun cdv A outer s H vs Q E hr h => ?_)
  · obtain ⟨a, ns, rfl, _⟩ := h
    rfl
  · obtain ⟨a, ns, rfl, hS, q⟩ := h
    refine ⟨_, (pss_one (ps_ret (pe_lst (pa_cons (pe_callTy call_list_of (by rfl) (z_list T) bb_list (pa_cons (pe_slice sl_list (pv 0) po_none (po_some pe_int)) pa_nil)) (pa_cons pe_int (pa_cons pe_int (pa_cons pe_int pa_nil))))))), ?_⟩
    refine ⟨_, rfl, 63, rfl, a, _, rfl, hS, fun p np => ?_⟩
    obtain ⟨ms, e⟩ := cut_ints ns none (some 63)
    rw [e]
    have s1 := same_upd (o := .lst (ms.map V.int)) np
    refine ⟨p, _, rfl, .inl (.inl (.inl upd_same)), fun l nl => ?_⟩
    have s2 := same_upd (o := .lst (ms.map V.int)) nl
    refine ⟨by show 4 ≤ sizeLine; decide, fun f nf => ?_⟩
    have s3 := same_upd (o := .lst [.ref l, .int 0, .int 0, .int 11]) nf
    have sa := s1.trans s2
    exact q f l _ (sa.trans s3) (sa.free nf) (s1.free nl) ⟨ms, 0, 0, 11, upd_same, s3 _ _ upd_same, by decide, by decide, by decide, by decide⟩
/-! ### _law_draw -/
def sp_draw : Sp := fun vs H Q _ => ∃ (f c : Addr) (n : Int), vs = [.ref f, .int n] ∧ Flow H f c ∧ 0 < n ∧ n < 1606938044258990275541962092341162602522202993782792835301376 ∧ ∀ (v : Int) (H' : Hp), 0 ≤ v → v < n → Sb f H H' → Flow H' f c → Q (.int v) H'
theorem cal__law_draw (T : Tp K mg) : Cal P w K mg base 2 "_law_draw" sp_draw := by
  obtain ⟨fd, F⟩ := f__law_draw T
  refine cal_of F (g__law_draw T) (b__law_draw F) sc__law_draw (fun vs H Q E h => ?_) (fun cdv A outer s H vs Q E hr h => ?_)
  · obtain ⟨f, c, n, rfl, _⟩ := h
    rfl
  · obtain ⟨f, c, n, rfl, FL, n0, n1, q⟩ := h
    obtain ⟨ns, i, r, st, hf, hc, i0, r0, st0, st1⟩ := FL.ex
    have hn : n ≠ 0 := by omega
    have hdiv : CDivX r n := ⟨hn, big_log n1 n0⟩
    have ncf := flow_ne hf hc
    refine ⟨_, (pss_cons (ps_if (pt_cmpR op_gt (pe_ix ix_list (pv 0) pe_int (fun _ _ => rfl)) pe_int (nomark _)) (pss_cons (ps_set (i := 2) sc__law_draw.nd rfl (.inl rfl) (pe_op op_modN (pe_ix ix_list (pv 0) pe_int (fun _ _ => rfl)) (pv 1)))
        (pss_cons (ps_asg (pe_op op_fdivX (pe_ix ix_list (pv 0) pe_int (fun _ _ => rfl)) (pv 1)) (pg_sub (pv 0) pe_int set_list))
        (pss_one (ps_ret (pv 2))))) pss_nil)
      (pss_cons (ps_set (i := 3) sc__law_draw.nd rfl (.inl rfl) pe_int)
      (C8.pss_cut (ps_if (pt_cmpR op_lt (pe_ix ix_list (pv 0) pe_int (fun _ _ => rfl)) (pe_callB call_len_seq (by rfl) (z_len T) bb_len (pa_cons (pe_ix ix_list (pv 0) pe_int (fun _ _ => rfl)) pa_nil)) (nomark _)) (pss_one (ps_set (i := 3) sc__law_draw.nd rfl (.inl rfl) (pe_ix ix_list (pe_ix ix_list (pv 0) pe_int (fun _ _ => rfl)) (pe_ix ix_list (pv 0) pe_int (fun _ _ => rfl)) (fun _ _ => rfl)))) pss_nil)
      (pss_cons (ps_asg (pe_op op_add (pe_ix ix_list (pv 0) pe_int (fun _ _ => rfl)) pe_int) (pg_sub (pv 0) pe_int set_list))
      (pss_cons (ps_if (pt_cmpR op_ge (pe_callB call_abs (by rfl) (z_abs T) bb_abs (pa_cons (pv 3) pa_nil)) (pe_op op_pow pe_int pe_int) (nomark _)) (pss_cons (ps_asg (pe_op op_fdivX (pe_callB call_abs (by rfl) (z_abs T) bb_abs (pa_cons (pv 3) pa_nil)) (pv 1)) (pg_sub (pv 0) pe_int set_list))
        (pss_one (ps_ret (pe_op op_modN (pe_callB call_abs (by rfl) (z_abs T) bb_abs (pa_cons (pv 3) pa_nil)) (pv 1))))) pss_nil)
      (pss_cons (ps_set (i := 4) sc__law_draw.nd rfl (.inl rfl) (pe_op op_add (pe_op op_add (pe_op op_pow (pe_ix ix_list (pv 0) pe_int (fun _ _ => rfl)) pe_int) (pe_op op_mul (pe_ix ix_list (pv 0) pe_int (fun _ _ => rfl)) pe_int)) (pe_op op_mul (pe_ix ix_list (pv 0) pe_int (fun _ _ => rfl)) pe_int)))
      (pss_cons (ps_set (i := 4) sc__law_draw.nd rfl (.inl rfl) (pe_op op_modN (pe_op op_add (pv 4) (pe_op op_mul (pe_op op_modN (pv 3) pe_int) pe_int)) pe_int))
      (pss_cons (ps_asg (pv 4) (pg_sub (pv 0) pe_int set_list))
      (pss_one (ps_ret (pe_op op_modN (pe_op op_add (pe_op op_fdivN (pv 4) pe_int) (pe_op op_mul (pe_op op_modN (pv 4) pe_int) pe_int)) (pv 1)))))))))))), ?_⟩
    refine ⟨_, rfl, f, _, 2, _, rfl, rfl, .inl (.inl hf), atI_nat (j := 2) rfl, _, _, rfl, rfl, _, rfl, ite2 (fun e => ?_) (fun e => ?_)⟩
    · -- numbers are left of a great one
      refine ⟨_, rfl, f, _, 2, _, rfl, rfl, .inl (.inl hf), atI_nat (j := 2) rfl, _, rfl, _, _, rfl, rfl, hn, ?_⟩
      refine ⟨_, rfl, f, _, 2, _, rfl, rfl, .inl (.inl hf), atI_nat (j := 2) rfl, _, rfl, _, _, rfl, rfl, hdiv, _, rfl, f, _, 2, 2, rfl, rfl, hf, rfl, ?_⟩
      exact ⟨_, rfl, q _ _ (fm_lo _ n0) (fm_hi _ n0) Sb.upd (Flow.put hf hc i0 (fd_lo r0 n0) st0 st1)⟩
    · -- the next cell
      refine ⟨fun σ' H' => H' = H ∧ ∃ x : Int, σ' = [some (.ref f), some (.int n), none, some (.int x), none], ?_, ?_⟩
      · refine ⟨_, rfl, f, _, 1, _, rfl, rfl, .inl (.inl hf), atI_nat (j := 1) rfl, _, rfl, f, _, 0, _, rfl, rfl, .inl (.inl hf), atI_nat (j := 0) rfl, c, _, rfl, .inl (.inl (.inl hc)), _, _, rfl, rfl, _, rfl, ite2 (fun e => ?_) (fun e => ?_)⟩
        · have hi : i < ((ns.map V.int).length : Int) := of_decide_eq_true e
          rw [List.length_map] at hi
          have hj : i.toNat < ns.length := by omega
          refine ⟨_, rfl, f, _, 0, _, rfl, rfl, .inl (.inl hf), atI_nat (j := 0) rfl, _, rfl, f, _, 1, _, rfl, rfl, .inl (.inl hf), atI_nat (j := 1) rfl, c, _, i, .int ns[i.toNat], rfl, rfl, .inl (.inl hc), ?_, rfl, ns[i.toNat], rfl⟩
          refine at_of (j := i.toNat) (by omega) ?_
          rw [List.getElem?_map, List.getElem?_eq_getElem hj]
          rfl
        · exact ⟨rfl, 0, rfl⟩
      · rintro σ' H' ⟨rfl, x, rfl⟩
        -- flow[1] = flow[1] + 1
        refine ⟨_, rfl, f, _, 1, _, rfl, rfl, .inl (.inl hf), atI_nat (j := 1) rfl, _, _, rfl, rfl, _, rfl, f, _, 1, 1, rfl, rfl, hf, rfl, ?_⟩
        have hf1 : (upd H' f (.lst [.ref c, .int (i + 1), .int r, .int st])) f = some (.lst [.ref c, .int (i + 1), .int r, .int st]) := upd_same
        have hc1 : (upd H' f (.lst [.ref c, .int (i + 1), .int r, .int st])) c = some (.lst (ns.map V.int)) := by
          rw [upd_ne ncf]
          exact hc
        have sb1 : Sb f H' (upd H' f (.lst [.ref c, .int (i + 1), .int r, .int st])) := Sb.upd
        have a0 := abs_lo x
        refine ⟨_, rfl, _, rfl, 10, 18, rfl, rfl, ⟨by decide, by decide, by decide⟩, _, _, rfl, rfl, _, rfl, ite2 (fun e => ?_) (fun e => ?_)⟩
        · refine ⟨_, rfl, _, rfl, _, rfl, _, _, rfl, rfl, ⟨hn, big_log n1 n0⟩, _, rfl, f, _, 2, 2, rfl, rfl, hf1, rfl, ?_⟩
          exact ⟨_, rfl, _, rfl, _, rfl, _, _, rfl, rfl, hn, q _ _ (fm_lo _ n0) (fm_hi _ n0) (sb1.trans Sb.upd) (Flow.put hf1 hc1 (by omega) (fd_lo a0 n0) st0 st1)⟩
        · refine ⟨_, rfl, f, _, 3, _, rfl, rfl, .inl (.inl hf1), atI_nat (j := 3) rfl, st, 3, rfl, rfl, ⟨by decide, by decide, by omega⟩, ?_⟩
          refine ⟨_, rfl, f, _, 3, _, rfl, rfl, .inl (.inl hf1), atI_nat (j := 3) rfl, st, 31, rfl, rfl, .inr ⟨by decide, by decide⟩, _, _, rfl, rfl, ?_⟩
          refine ⟨_, rfl, f, _, 1, _, rfl, rfl, .inl (.inl hf1), atI_nat (j := 1) rfl, i + 1, 69621, rfl, rfl, .inr ⟨by decide, by decide⟩, _, _, rfl, rfl, ?_⟩
          refine ⟨_, rfl, _, rfl, x, 2147483629, rfl, rfl, (show (2147483629 : Int) ≠ 0 by decide), _, 48271, rfl, rfl, .inr ⟨by decide, by decide⟩, _, _, rfl, rfl, _, 2147483647, rfl, rfl, (show (2147483647 : Int) ≠ 0 by decide), ?_⟩
          have b0 := fm_lo (st ^ (3 : Int).toNat + st * 31 + (i + 1) * 69621 + x.fmod 2147483629 * 48271) (n := 2147483647) (by decide)
          have b1 := fm_hi (st ^ (3 : Int).toNat + st * 31 + (i + 1) * 69621 + x.fmod 2147483629 * 48271) (n := 2147483647) (by decide)
          refine ⟨_, rfl, _, rfl, f, _, 3, 3, rfl, rfl, hf1, rfl, ?_⟩
          refine ⟨_, rfl, _, 8192, rfl, rfl, ⟨by decide, by decide⟩, _, rfl, _, 8191, rfl, rfl, (show (8191 : Int) ≠ 0 by decide), _, 40503, rfl, rfl, .inr ⟨by decide, by decide⟩, _, _, rfl, rfl, _, rfl, _, n, rfl, rfl, hn, ?_⟩
          exact q _ _ (fm_lo _ n0) (fm_hi _ n0) (sb1.trans Sb.upd) (Flow.put hf1 hc1 (by omega) r0 b0 b1)
/-! ### _law_pick -/
def sp_pick : Sp := fun vs H Q _ => ∃ (f c l : Addr) (xs : List V), vs = [.ref f, .ref l] ∧ Flow H f c ∧ H l = some (.lst xs) ∧ l ≠ f ∧ 0 < xs.length ∧ xs.length ≤ 1000 ∧ ∀ (v : V) (H' : Hp), v ∈ xs → Sb f H H' → Flow H' f c → Q v H'
theorem cal__law_pick (T : Tp K mg) : Cal P w K mg base 3 "_law_pick" sp_pick := by
  obtain ⟨fd, F⟩ := f__law_pick T
  refine cal_of F (g__law_pick T) (b__law_pick F) sc__law_pick (fun vs H Q E h => ?_) (fun cdv A outer s H vs Q E hr h => ?_)
  · obtain ⟨f, c, l, xs, rfl, _⟩ := h
    rfl
  · obtain ⟨f, c, l, xs, rfl, FL, hl, nlf, h0, h1, q⟩ := h
    refine ⟨_, (pss_one (ps_ret (pe_ix ix_list (pv 1) (C8.pe_c (cal__law_draw T) hr (by decide) rfl (pa_cons (pv 0) (pa_cons (pe_callB call_len_seq (by rfl) (z_len T) bb_len (pa_cons (pv 1) pa_nil)) pa_nil))) (fun _ _ => rfl)))), ?_⟩
    refine ⟨_, rfl, _, rfl, _, rfl, l, _, rfl, .inl (.inl (.inl hl)), f, c, _, rfl, FL, by omega, by omega, fun v H1 v0 v1 sb F1 => ?_⟩
    have hv : v.toNat < xs.length := by omega
    exact ⟨l, xs, v, xs[v.toNat], rfl, rfl, .inl (.inl (sb _ _ hl nlf)), at_of (j := v.toNat) (by omega) (List.getElem?_eq_getElem hv), q _ H1 (List.getElem_mem hv) sb F1⟩
end
end Tw

set_option maxHeartbeats 4000000
namespace Tw
open PySem PySem.Spec PyProof.Rows L2
/-! ### the law's own picture of a web: a dict -/
abbrev kBy : Key := .inr "by"
abbrev kOwn : Key := .inr "own"
abbrev kWd : Key := .inr "winds"
abbrev kBd : Key := .inr "bonds"
theorem k1 : ¬ kBy = kOwn := by decide +kernel
theorem k2 : ¬ kBy = kWd := by decide +kernel
theorem k3 : ¬ kBy = kBd := by decide +kernel
theorem k4 : ¬ kOwn = kWd := by decide +kernel
theorem k5 : ¬ kOwn = kBd := by decide +kernel
theorem k6 : ¬ kWd = kBd := by decide +kernel
def mk (l : Int) (o w b : Addr) : List (Key × V) := [(kBy, .int l), (kOwn, .ref o), (kWd, .ref w), (kBd, .ref b)]
section
variable {l : Int} {o w b o2 : Addr} {H : Hp} {d : Addr}
theorem mk_by (h : H d = some (.dK (mk l o w b))) : DGet H d (.str "by") (some (.int l)) := .inl ⟨_, kBy, .inl h, rfl, by
  unfold mk
  rw [valV_pos rfl]⟩
theorem mk_own (h : H d = some (.dK (mk l o w b))) : DGet H d (.str "own") (some (.ref o)) := .inl ⟨_, kOwn, .inl h, rfl, by
  unfold mk
  rw [valV_neg k1, valV_pos rfl]⟩
theorem mk_wd (h : H d = some (.dK (mk l o w b))) : DGet H d (.str "winds") (some (.ref w)) := .inl ⟨_, kWd, .inl h, rfl, by
  unfold mk
  rw [valV_neg k2, valV_neg k4, valV_pos rfl]⟩
theorem mk_bd (h : H d = some (.dK (mk l o w b))) : DGet H d (.str "bonds") (some (.ref b)) := .inl ⟨_, kBd, .inl h, rfl, by
  unfold mk
  rw [valV_neg k3, valV_neg k5, valV_neg k6, valV_pos rfl]⟩
theorem mk_putOwn : putK (mk l o w b) kOwn (.ref o2) = mk l o2 w b := by
  have n4 : ¬ kWd = kOwn := fun e => k4 e.symm
  have n5 : ¬ kBd = kOwn := fun e => k5 e.symm
  unfold putK mk
  rw [if_pos (by rw [List.any_cons, List.any_cons, decide_eq_true (rfl : kOwn = kOwn)]; simp)]
  simp only [List.map_cons, List.map_nil, if_neg k1, if_neg n4, if_neg n5, if_true]
end
theorem mk_merge (l : Int) (o w b : Addr) : mergeK [] [(kBy, .int l), (kOwn, .ref o), (kWd, .ref w), (kBd, .ref b)] = mk l o w b := by
  show putK (putK (putK (putK [] kBy (.int l)) kOwn (.ref o)) kWd (.ref w)) kBd (.ref b) = mk l o w b
  rw [putK_new (kvs := []) _ valV_nil, List.nil_append]
  rw [putK_new (kvs := [(kBy, V.int l)]) _ (by rw [valV_neg k1]; rfl), List.singleton_append]
  rw [putK_new (kvs := [(kBy, V.int l), (kOwn, V.ref o)]) _ (by rw [valV_neg k2, valV_neg k4]; rfl), List.cons_append, List.singleton_append]
  rw [putK_new (kvs := [(kBy, V.int l), (kOwn, V.ref o), (kWd, V.ref w)]) _ (by rw [valV_neg k3, valV_neg k5, valV_neg k6]; rfl)]
  rfl
/-- the picture m stands at d -/
structure MdAt (H : Hp) (d : Addr) (m : Md) : Prop where
  ex : ∃ (o w b : Addr) (ws bs : List V), H d = some (.dK (mk m.last o w b)) ∧ H o = some (.lst (m.own.map V.str)) ∧ H w = some (.lst ws) ∧ Rows H ws (m.wd.map Wd.row) ∧ H b = some (.lst bs) ∧ Rows H bs (m.bd.map Bd.row) ∧ o ≠ w ∧ o ≠ b ∧ w ≠ b
/-- .. with its three lists at o, w, b -/
structure MdX (H : Hp) (d o w b : Addr) (m : Md) : Prop where
  dk : H d = some (.dK (mk m.last o w b))
  own : H o = some (.lst (m.own.map V.str))
  wd : ∃ ws, H w = some (.lst ws) ∧ Rows H ws (m.wd.map Wd.row)
  bd : ∃ bs, H b = some (.lst bs) ∧ Rows H bs (m.bd.map Bd.row)
  now : o ≠ w
  nob : o ≠ b
  nwb : w ≠ b
theorem MdX.at {H : Hp} {d o w b : Addr} {m : Md} (M : MdX H d o w b m) : MdAt H d m := by
  obtain ⟨ws, h1, h2⟩ := M.wd
  obtain ⟨bs, h3, h4⟩ := M.bd
  exact ⟨o, w, b, ws, bs, M.dk, M.own, h1, h2, h3, h4, M.now, M.nob, M.nwb⟩
theorem strs_flow {H : Hp} {f c a : Addr} {l : List Str} (F : Flow H f c) (h : H a = some (.lst (l.map V.str))) : a ≠ f := by
  obtain ⟨ns, i, r, st, h1, _⟩ := F.ex
  refine ne_of h h1 fun e => ?_
  have e := HO.lst.inj e
  cases l with
  | nil => cases e
  | cons x t =>
    have e1 := (List.cons.inj e).1
    cases e1
theorem rows_flow {H : Hp} {f c a : Addr} {xs : List V} {rs : List (List V)} (F : Flow H f c) (h : H a = some (.lst xs)) (R : Rows H xs rs) : a ≠ f := by
  obtain ⟨ns, i, r, st, h1, _⟩ := F.ex
  refine ne_of h h1 fun e => ?_
  have e := HO.lst.inj e
  subst e
  obtain ⟨t, r', e1, _⟩ := R.at (i := 1) (x := .int i) rfl
  cases e1
theorem MdAt.same {H H' : Hp} {d : Addr} {m : Md} (M : MdAt H d m) (s : Same H H') : MdAt H' d m := by
  obtain ⟨o, w, b, ws, bs, h1, h2, h3, h4, h5, h6, h7⟩ := M.ex
  exact ⟨o, w, b, ws, bs, s _ _ h1, s _ _ h2, s _ _ h3, h4.keep (Kt.of s), s _ _ h5, h6.keep (Kt.of s), h7⟩
theorem MdAt.sb {H H' : Hp} {f c d : Addr} {m : Md} (M : MdAt H d m) (F : Flow H f c) (s : Sb f H H') : MdAt H' d m := by
  obtain ⟨o, w, b, ws, bs, h1, h2, h3, h4, h5, h6, h7⟩ := M.ex
  obtain ⟨xs, hf⟩ := F.lst
  have k := s.kt hf
  exact ⟨o, w, b, ws, bs, s _ _ h1 (ne_of h1 hf (by intro z; cases z)), s _ _ h2 (strs_flow F h2), s _ _ h3 (rows_flow F h3 h4), h4.keep k, s _ _ h5 (rows_flow F h5 h6), h6.keep k, h7⟩
theorem MdX.same {H H' : Hp} {d o w b : Addr} {m : Md} (M : MdX H d o w b m) (s : Same H H') : MdX H' d o w b m := by
  obtain ⟨ws, h1, h2⟩ := M.wd
  obtain ⟨bs, h3, h4⟩ := M.bd
  exact ⟨s _ _ M.dk, s _ _ M.own, ⟨ws, s _ _ h1, h2.keep (Kt.of s)⟩, ⟨bs, s _ _ h3, h4.keep (Kt.of s)⟩, M.now, M.nob, M.nwb⟩
theorem MdX.sb {H H' : Hp} {f c d o w b : Addr} {m : Md} (M : MdX H d o w b m) (F : Flow H f c) (s : Sb f H H') : MdX H' d o w b m := by
  obtain ⟨ws, h1, h2⟩ := M.wd
  obtain ⟨bs, h3, h4⟩ := M.bd
  obtain ⟨xs, hf⟩ := F.lst
  have k := s.kt hf
  exact ⟨s _ _ M.dk (ne_of M.dk hf (by intro z; cases z)), s _ _ M.own (strs_flow F M.own), ⟨ws, s _ _ h1 (rows_flow F h1 h2), h2.keep k⟩, ⟨bs, s _ _ h3 (rows_flow F h3 h4), h4.keep k⟩, M.now, M.nob, M.nwb⟩
/-- a span more -/
theorem MdX.addW {H : Hp} {d o w b t : Addr} {m : Md} {x : Wd} {ws : List V} (M : MdX H d o w b m) (e : H w = some (.lst ws)) (R : Rows H ws (m.wd.map Wd.row)) (ht : H t = some (.tup x.row)) : MdX (upd H w (.lst (ws ++ [.ref t]))) d o w b (m.addS x) := by
  obtain ⟨bs, h3, h4⟩ := M.bd
  have k : Kt H (upd H w (.lst (ws ++ [.ref t]))) := Kt.upd fun xs z => by
    rw [e] at z
    cases z
  refine ⟨?_, ?_, ⟨_, upd_same, ?_⟩, ⟨bs, ?_, h4.keep k⟩, M.now, M.nob, M.nwb⟩
  · rw [upd_ne (ne_of M.dk e (by intro z; cases z))]
    exact M.dk
  · rw [upd_ne M.now]
    exact M.own
  · show Rows _ _ ((m.wd ++ [x]).map Wd.row)
    rw [List.map_append]
    exact (R.keep k).snoc (k _ _ ht)
  · rw [upd_ne M.nwb.symm]
    exact h3
/-- a tie more -/
theorem MdX.addB {H : Hp} {d o w b t : Addr} {m : Md} {x : Bd} {bs : List V} (M : MdX H d o w b m) (e : H b = some (.lst bs)) (R : Rows H bs (m.bd.map Bd.row)) (ht : H t = some (.tup x.row)) : MdX (upd H b (.lst (bs ++ [.ref t]))) d o w b (m.addT x) := by
  obtain ⟨ws, h3, h4⟩ := M.wd
  have k : Kt H (upd H b (.lst (bs ++ [.ref t]))) := Kt.upd fun xs z => by
    rw [e] at z
    cases z
  refine ⟨?_, ?_, ⟨ws, ?_, h4.keep k⟩, ⟨_, upd_same, ?_⟩, M.now, M.nob, M.nwb⟩
  · rw [upd_ne (ne_of M.dk e (by intro z; cases z))]
    exact M.dk
  · rw [upd_ne M.nob]
    exact M.own
  · rw [upd_ne M.nwb]
    exact h3
  · show Rows _ _ ((m.bd ++ [x]).map Bd.row)
    rw [List.map_append]
    exact (R.keep k).snoc (k _ _ ht)
/-- the names that are drawn -/
def pool : List Str := ["a", "bb", "c", "zzzzzzzz", "ab", "x", "late", "by", "q", "tie", "ends", "waits", "k", "ba"]
theorem pool_nd : pool.Nodup := by decide +kernel
theorem pool_ok : (pool.all fun z => decide (1 ≤ z.length) && decide (z.length ≤ 8) && (z.cps.toList.all fun c => decide (c ∈ letters.cps.toList)) && !decide (z = "start")) = true := by decide +kernel
theorem pool_nm {z : Str} (h : z ∈ pool) : Nm z ∧ ¬ z = "start" := by
  have e := List.all_eq_true.mp pool_ok z h
  simp only [Bool.and_eq_true, decide_eq_true_eq, List.all_eq_true, Bool.not_eq_true', decide_eq_false_iff_not] at e
  exact ⟨⟨e.1.1.1, e.1.1.2, e.1.2⟩, e.2⟩
theorem pull_perm {α : Type} : ∀ (r : List α) (v : Nat) (h : v < r.length), (r[v] :: r.eraseIdx v).Perm r
  | [], v, h => absurd h (Nat.not_lt_zero _)
  | a :: r, 0, h => List.Perm.refl _
  | a :: r, v + 1, h => by
    have ih := pull_perm r v (Nat.lt_of_succ_lt_succ h)
    exact (List.Perm.swap a (r[v]'(Nat.lt_of_succ_lt_succ h)) (r.eraseIdx v)).trans (ih.cons a)
theorem erase_map {α β : Type} (g : α → β) : ∀ (r : List α) (v : Nat), (r.map g).eraseIdx v = (r.eraseIdx v).map g
  | [], _ => rfl
  | a :: r, 0 => rfl
  | a :: r, v + 1 => congrArg (g a :: ·) (erase_map g r v)
theorem nd_pull {l r : List Str} {v : Nat} (h : v < r.length) (nd : (l ++ r).Nodup) : ((l ++ [r[v]]) ++ r.eraseIdx v).Nodup := by
  have p : (r[v] :: r.eraseIdx v).Perm r := pull_perm r v h
  rw [List.append_assoc, List.singleton_append]
  exact (p.append_left l).nodup_iff.mpr nd
theorem mem_pull {r : List Str} {v : Nat} {z : Str} (h : v < r.length) : z ∈ r[v] :: r.eraseIdx v ↔ z ∈ r := (pull_perm r v h).mem_iff
section
variable {P : Program} {w : World} {K : PySem.W.Frag} {mg : Str → Option Value} {base : Heap}
/-! ### _law_names -/
def sp_names : Sp := fun vs H Q _ => ∃ (f c : Addr) (n : Int), vs = [.ref f, .int n] ∧ Flow H f c ∧ 0 ≤ n ∧ n ≤ 14 ∧ ∀ (q : Addr) (ns : List Str) (H' : Hp), Sb f H H' → Flow H' f c → H q = none → H' q = some (.lst (ns.map V.str)) → ns.length = n.toNat → ns.Nodup → (∀ z ∈ ns, z ∈ pool) → Q (.ref q) H'
theorem cal__law_names (T : Tp K mg) : Cal P w K mg base 3 "_law_names" sp_names := by
  obtain ⟨fd, F⟩ := f__law_names T
  refine cal_of F (g__law_names T) (b__law_names F) sc__law_names (fun vs H Q E h => ?_) (fun cdv A outer s H vs Q E hr h => ?_)
  · obtain ⟨f, c, n, rfl, _⟩ := h
    rfl
  · obtain ⟨f, c, n, rfl, FL, n0, n1, q⟩ := h
    refine ⟨_, (pss_cons (ps_set (i := 2) sc__law_names.nd rfl (.inl rfl) (pe_lst (pa_cons pe_str (pa_cons pe_str (pa_cons pe_str (pa_cons pe_str (pa_cons pe_str (pa_cons pe_str (pa_cons pe_str (pa_cons pe_str (pa_cons pe_str (pa_cons pe_str (pa_cons pe_str (pa_cons pe_str (pa_cons pe_str (pa_cons pe_str pa_nil))))))))))))))))
      (pss_cons (ps_set (i := 3) sc__law_names.nd rfl (.inl rfl) (pe_lst pa_nil))
      (pss_cons (ps_for PassesOwn.never rfl (pi_range1 rfl (z_range T) (pa_cons (pv 1) pa_nil)) (pg_name (i := 4) sc__law_names.nd rfl (.inl rfl))
        (pss_one (ps_expr (pe_bm PySem.F.plainAttrs_list PySem.F.slot_list_append PySem.F.type_list_append mt_append (pv 3) (pa_cons (pe_bm PySem.F.plainAttrs_list PySem.F.slot_list_pop PySem.F.type_list_pop mt_popAt (pv 2) (pa_cons (C8.pe_c (cal__law_draw T) hr (by decide) rfl (pa_cons (pv 0) (pa_cons (pe_callB call_len_seq (by rfl) (z_len T) bb_len (pa_cons (pv 2) pa_nil)) pa_nil))) pa_nil)) pa_nil)))))
      (pss_one (ps_ret (pv 3)))))), ?_⟩
    refine ⟨by show 14 ≤ sizeLine; decide, fun l nl => ?_⟩
    have s1 := same_upd (o := .lst (pool.map V.str)) nl
    refine ⟨Nat.zero_le _, fun k nk => ?_⟩
    have s2 := same_upd (o := .lst []) nk
    have sa := s1.trans s2
    have nkH : H k = none := s1.free nk
    have nlk : l ≠ k := fun z => by
      rw [← z, upd_same] at nk
      cases nk
    obtain ⟨xs, hf⟩ := FL.lst
    have nlf : l ≠ f := (ne_of_none hf nl).symm
    have nkf : k ≠ f := (ne_of_none hf nkH).symm
    obtain ⟨ys, hc⟩ := FL.cells
    have ncl : c ≠ l := ne_of_none hc nl
    have nck : c ≠ k := ne_of_none hc nkH
    refine ⟨_, rfl, n, rfl, by omega, by omega, ?_⟩
    refine for_range (lo := 0) (n := n.toNat) (fun i σ H1 => ∃ (y : Option V) (ns rest : List Str), σ = [some (.ref f), some (.int n), some (.ref l), some (.ref k), y] ∧ Sb f H H1 ∧ Flow H1 f c ∧ H1 l = some (.lst (rest.map V.str)) ∧ H1 k = some (.lst (ns.map V.str)) ∧
      ns.length = i ∧ rest.length + i = 14 ∧ (ns ++ rest).Nodup ∧ ∀ z ∈ ns ++ rest, z ∈ pool) ?_ ?_ ?_
    · exact ⟨none, [], pool, rfl, Sb.of sa, FL.same sa, s2 _ _ upd_same, upd_same, rfl, rfl, pool_nd, fun z h => h⟩
    · rintro i σ H1 hi ⟨y, ns, rest, rfl, sb, F1, hl1, hk1, el, er, nd, hp⟩
      have hlen : (rest.map V.str).length = 14 - i := by
        rw [List.length_map]
        omega
      refine ⟨_, rfl, .inl ⟨rfl, _, .inl (.inl hk1)⟩, _, rfl, .inl ⟨rfl, _, .inl (.inl hl1)⟩, _, rfl, _, rfl, l, _, rfl, .inl (.inl (.inl hl1)), f, c, _, rfl, F1, by omega, by omega, fun v H2 v0 v1 sb2 F2 => ?_⟩
      have hv : v.toNat < rest.length := by
        rw [hlen] at v1
        omega
      have hl2 := sb2 _ _ hl1 nlf
      have hk2 := sb2 _ _ hk1 nkf
      refine ⟨l, _, v, v.toNat, .str rest[v.toNat], rfl, rfl, hl2, by omega, by omega, ?_, ?_, k, _, _, rfl, rfl, (by rw [upd_ne nlk.symm]; exact hk2), ?_, ?_⟩
      · unfold seqIndex?
        rw [if_neg (show ¬ v < 0 by omega), if_pos (by simp only [Bool.and_eq_true, decide_eq_true_eq]; omega)]
      · rw [List.getElem?_map, List.getElem?_eq_getElem hv]
        rfl
      · rw [List.length_map]
        exact small1000 (by omega)
      · refine ⟨_, ns ++ [rest[v.toNat]], rest.eraseIdx v.toNat, rfl, ?_, ?_, ?_, ?_, ?_, ?_, nd_pull hv nd, ?_⟩
        · refine fun b o e nb => ?_
          have e1 := sb2 _ _ (sb _ _ e nb) nb
          rw [upd_ne (ne_of_none e nkH), upd_ne (ne_of_none e nl)]
          exact e1
        · exact (F2.upd nlf.symm ncl).upd nkf.symm nck
        · rw [upd_ne nlk, upd_same, erase_map]
        · rw [upd_same, List.map_append]
          rfl
        · rw [List.length_append, el]
          rfl
        · rw [List.length_eraseIdx_of_lt hv]
          omega
        · intro z hz
          refine hp z ?_
          rw [List.append_assoc, List.singleton_append] at hz
          rcases List.mem_append.mp hz with h | h
          · exact List.mem_append.mpr (.inl h)
          · exact List.mem_append.mpr (.inr ((mem_pull hv).mp h))
    · rintro σ H1 ⟨y, ns, rest, rfl, sb, F1, hl1, hk1, el, er, nd, hp⟩
      exact ⟨_, rfl, q k ns H1 sb F1 nkH hk1 el (List.nodup_append.mp nd).1 fun z hz => hp z (List.mem_append.mpr (.inl hz))⟩
end
end Tw

set_option maxHeartbeats 4000000
namespace Tw
open PySem PySem.Spec PyProof.Rows L2
section
variable {P : Program} {w : World} {K : PySem.W.Frag} {mg : Str → Option Value} {base : Heap}
/-! ### _law_model -/
def sp_model : Sp := fun vs H Q _ => ∃ l : Int, vs = [.int l] ∧ ∀ (d o u b : Addr) (H' : Hp), Same H H' → H d = none → H o = none → H u = none → H b = none → MdX H' d o u b ⟨l, [], [], []⟩ → Q (.ref d) H'
theorem cal__law_model (T : Tp K mg) : Cal P w K mg base 2 "_law_model" sp_model := by
  obtain ⟨fd, F⟩ := f__law_model T
  refine cal_of F (g__law_model T) (b__law_model F) sc__law_model (fun vs H Q E h => ?_) (fun cdv A outer s H vs Q E hr h => ?_)
  · obtain ⟨l, rfl, _⟩ := h
    rfl
  · obtain ⟨l, rfl, q⟩ := h
    refine ⟨_, (pss_one (ps_ret (pe_disp (pps_cons pe_str (pv 0) (pps_cons pe_str (pe_lst pa_nil) (pps_cons pe_str (pe_lst pa_nil) (pps_cons pe_str (pe_lst pa_nil) pps_nil)))) (by rfl) (by rfl) (fun z => by cases z) (by decide)))), ?_⟩
    refine fun d nd => ⟨_, rfl, Nat.zero_le _, fun o no => ⟨Nat.zero_le _, fun u nu => ⟨Nat.zero_le _, fun b nb => ?_⟩⟩⟩
    have s0 := same_upd (o := .dK []) nd
    have s1 := same_upd (o := .lst []) no
    have s2 := same_upd (o := .lst []) nu
    have s3 := same_upd (o := .lst []) nb
    have ed := s3 _ _ (s2 _ _ (s1 _ _ (upd_same (H := H) (a := d) (o := .dK []))))
    have eo := s3 _ _ (s2 _ _ (upd_same (H := upd H d (.dK [])) (a := o) (o := .lst [])))
    have eu := s3 _ _ (upd_same (H := upd (upd H d (.dK [])) o (.lst [])) (a := u) (o := .lst []))
    have eb := upd_same (H := upd (upd (upd H d (.dK [])) o (.lst [])) u (.lst [])) (a := b) (o := .lst [])
    have nod : o ≠ d := (ne_of ed eo (by intro z; cases z)).symm
    have nud : u ≠ d := (ne_of ed eu (by intro z; cases z)).symm
    have nbd : b ≠ d := (ne_of ed eb (by intro z; cases z)).symm
    have nou : o ≠ u := ne_of_none (s1 _ _ upd_same |> fun _ => upd_same) nu
    have nob : o ≠ b := ne_of_none (s2 _ _ upd_same) nb
    have nub : u ≠ b := ne_of_none upd_same nb
    refine ⟨ed, [(kBy, .int l), (kOwn, .ref o), (kWd, .ref u), (kBd, .ref b)], rfl, (by show 4 ≤ 15; decide), ?_⟩
    rw [mk_merge]
    refine q d o u b _ (fun x y e => ?_) nd (s0.free no) ((s0.trans s1).free nu) (((s0.trans s1).trans s2).free nb) ⟨upd_same, by rw [upd_ne nod]; exact eo, ⟨[], by rw [upd_ne nud]; exact eu, .nil⟩, ⟨[], by rw [upd_ne nbd]; exact eb, .nil⟩, nou, nob, nub⟩
    rw [upd_ne (ne_of_none e nd)]
    exact s3 _ _ (s2 _ _ (s1 _ _ (s0 _ _ e)))
/-! ### _law_points -/
def sp_lpoints : Sp := fun vs H Q _ => ∃ (d : Addr) (m : Md), vs = [.ref d] ∧ MdAt H d m ∧ m.own.length ≤ 14 ∧ m.wd.length ≤ 14 ∧ ∀ (q : Addr) (H' : Hp), Same H H' → H q = none → H' q = some (.lst (m.pts.map V.str)) → Q (.ref q) H'
theorem cal__law_points (T : Tp K mg) : Cal P w K mg base 2 "_law_points" sp_lpoints := by
  obtain ⟨fd, F⟩ := f__law_points T
  refine cal_of F (g__law_points T) (b__law_points F) sc__law_points (fun vs H Q E h => ?_) (fun cdv A outer s H vs Q E hr h => ?_)
  · obtain ⟨d, m, rfl, _⟩ := h
    rfl
  · obtain ⟨d, m, rfl, M, l1, l2, q⟩ := h
    have hu := hu_of hr
    obtain ⟨o, u, b, ws, bs, h1, h2, h3, h4, h5, h6, h7⟩ := M.ex
    have hw : ws.length = m.wd.length := by rw [h4.len, List.length_map]
    refine ⟨_, (pss_one (ps_ret (pe_op op_cat (pe_op op_cat (pe_lst (pa_cons pe_str pa_nil)) (pe_dget hu (pv 0) pe_str (fun _ _ => rfl))) (pe_lc (own := [("_law_wind_here", 1)]) (g := gName 1) (tt := tYes) rfl sc__law_points.nd (pi_list (pe_dget hu (pv 0) pe_str (fun _ _ => rfl))) (blkOk_by (N := N__law_points) (sc := defScope s__law_points) (by decide +kernel)) (fun _ _ _ _ _ => (pg_name (i := 1) sc__law_points.nd rfl (.inl rfl))) (fun _ _ _ _ _ => pts_nil) (fun _ _ _ _ _ => (pe_ix (ix_tupK (K := K) rfl) (pv 1) pe_int (fun _ _ => rfl))))))), ?_⟩
    refine ⟨by show 1 ≤ sizeLine; decide, fun l nl => ?_⟩
    have s1 := same_upd (o := .lst [.str "start"]) nl
    refine ⟨_, rfl, d, _, rfl, mk_own (s1 _ _ h1), l, o, _, _, rfl, rfl, upd_same, s1 _ _ h2, ?_, fun r nr => ?_⟩
    · rw [List.length_map]
      exact Nat.le_of_lt (small1000 (by show 1 + _ ≤ 1000; omega))
    · have s2 := same_upd (o := .lst ([.str "start"] ++ m.own.map V.str)) nr
      have sa := s1.trans s2
      refine ⟨_, rfl, d, _, rfl, mk_wd (sa _ _ h1), u, rfl, ⟨_, .inl (.inl (sa _ _ h3))⟩, fun D nD => ?_⟩
      have nDH : H D = none := sa.free nD
      refine lc_list (K := K) (a := u) (xs := ws) (fun i H1 => Same (upd (upd H l (.lst [.str "start"])) r (.lst ([.str "start"] ++ m.own.map V.str))) H1 ∧ H1 D = some (.lst (((m.wd.map (·.en)).take i).map V.str)))
        ⟨same_upd nD, upd_same⟩ (fun i H1 _ ⟨s3, _⟩ => .inl (.inl (s3 _ _ (sa _ _ h3)))) ?_ ?_
      · rintro i x H1 hx ⟨s3, d1⟩
        obtain ⟨t, r', rfl, hr', ht⟩ := h4.at hx
        rw [List.getElem?_map] at hr'
        cases e : m.wd[i]? with
        | none =>
          rw [e] at hr'
          cases hr'
        | some y =>
          rw [e] at hr'
          cases hr'
          have hi : i < m.wd.length := (List.getElem?_eq_some_iff.mp e).1
          refine ⟨rfl, yes_i (iteT ⟨_, rfl, t, _, 0, _, rfl, rfl, .inl (.inl (s3 _ _ (sa _ _ ht))), atI_nat (j := 0) rfl, _, d1, ?_, ?_, ?_⟩)⟩
          · rw [List.length_map, List.length_take]
            exact small1000 (by omega)
          · exact same_put s3 nD
          · rw [upd_same, List.take_add_one, List.getElem?_map, e, List.map_append]
            rfl
      · rintro H1 ⟨s3, d1⟩
        have en : (m.wd.map (·.en)).take ws.length = m.wd.map (·.en) := List.take_of_length_le (by rw [List.length_map]; omega)
        rw [en] at d1
        refine ⟨r, D, _, _, rfl, rfl, s3 _ _ upd_same, d1, ?_, fun x nx => ?_⟩
        · rw [List.length_append, List.length_map, List.length_map, List.length_map]
          exact Nat.le_of_lt (small1000 (by show 1 + _ + _ ≤ 1000; omega))
        · have s4 := same_upd (o := .lst ([.str "start"] ++ m.own.map V.str ++ (m.wd.map (·.en)).map V.str)) nx
          have sb := sa.trans s3
          refine q x _ (sb.trans s4) (sb.free nx) ?_
          rw [upd_same]
          unfold Md.pts
          rw [List.map_cons, List.map_append]
          rfl
/-! ### _law_wind -/
structure WdOk (own : List Str) (x : Wd) : Prop where
  bg : x.bg = "start" ∨ x.bg ∈ own
  lo : 1 ≤ x.lo
  hi : x.lo ≤ x.hi
  top : x.hi ≤ 1000
  la : ∀ i, x.la = some i → 0 ≤ i ∧ i ≤ 1000
def sp_wind : Sp := fun vs H Q _ => ∃ (f c o : Addr) (z : Str) (own : List Str) (far : Int), vs = [.ref f, .str z, .ref o, .int far] ∧ Flow H f c ∧ H o = some (.lst (own.map V.str)) ∧ own.length ≤ 14 ∧ 1 ≤ far ∧ far ≤ 500 ∧
  ∀ (t : Addr) (x : Wd) (H' : Hp), Sb f H H' → Flow H' f c → H t = none → H' t = some (.tup x.row) → x.en = z → WdOk own x → (x.lo ≤ far ∧ x.hi < 2 * far ∧ ∀ i, x.la = some i → i ≤ far) → Q (.ref t) H'
theorem cal__law_wind (T : Tp K mg) : Cal P w K mg base 4 "_law_wind" sp_wind := by
  obtain ⟨fd, F⟩ := f__law_wind T
  refine cal_of F (g__law_wind T) (b__law_wind F) sc__law_wind (fun vs H Q E h => ?_) (fun cdv A outer s H vs Q E hr h => ?_)
  · obtain ⟨f, c, o, z, own, far, rfl, _⟩ := h
    rfl
  · obtain ⟨f, c, o, z, own, far, rfl, FL, ho, hl, f0, f1, q⟩ := h
    refine ⟨_, (pss_cons (ps_set (i := 4) sc__law_wind.nd rfl (.inl rfl) (pe_op op_add pe_int (C8.pe_c (cal__law_draw T) hr (by decide) rfl (pa_cons (pv 0) (pa_cons (pv 3) pa_nil)))))
      (pss_cons (ps_set (i := 5) sc__law_wind.nd rfl (.inl rfl) (pe_op op_add (pv 4) (C8.pe_c (cal__law_draw T) hr (by decide) rfl (pa_cons (pv 0) (pa_cons (pv 3) pa_nil)))))
      (pss_cons (ps_set (i := 6) sc__law_wind.nd rfl (.inl rfl) (pe_ix ix_list (pe_lst (pa_cons pe_int (pa_cons pe_int (pa_cons pe_int (pa_cons (pe_op op_add pe_int (C8.pe_c (cal__law_draw T) hr (by decide) rfl (pa_cons (pv 0) (pa_cons (pv 3) pa_nil)))) (pa_cons pe_non pa_nil)))))) (C8.pe_c (cal__law_draw T) hr (by decide) rfl (pa_cons (pv 0) (pa_cons pe_int pa_nil))) (fun _ _ => rfl)))
      (pss_one (ps_ret (pe_tup (pa_cons (pv 1) (pa_cons (C8.pe_c (cal__law_pick T) hr (by decide) rfl (pa_cons (pv 0) (pa_cons (pe_op op_cat (pe_lst (pa_cons pe_str pa_nil)) (pv 2)) pa_nil))) (pa_cons (pv 4) (pa_cons (pv 5) (pa_cons (pv 6) pa_nil))))))))))), ?_⟩
    have nof := strs_flow FL ho
    obtain ⟨zs, hf⟩ := FL.lst
    obtain ⟨ys, hc⟩ := FL.cells
    refine ⟨_, rfl, _, rfl, f, c, far, rfl, FL, by omega, by omega, fun v1 H1 a1 b1 sb1 F1 => ⟨1, v1, rfl, rfl, ?_⟩⟩
    refine ⟨_, rfl, _, rfl, _, rfl, f, c, far, rfl, F1, by omega, by omega, fun v2 H2 a2 b2 sb2 F2 => ⟨_, _, rfl, rfl, ?_⟩⟩
    refine ⟨_, rfl, _, rfl, f, c, far, rfl, F2, by omega, by omega, fun v3 H3 a3 b3 sb3 F3 => ⟨1, v3, rfl, rfl, (by show 5 ≤ sizeLine; decide), fun l nl => ?_⟩⟩
    obtain ⟨zs3, hf3⟩ := F3.lst
    obtain ⟨ys3, hc3⟩ := F3.cells
    have sl := same_upd (o := .lst [.int 0, .int 0, .int 0, .int (1 + v3), .non]) nl
    have nlf : l ≠ f := (ne_of_none hf3 nl).symm
    refine ⟨_, rfl, f, c, 5, rfl, F3.same sl, by decide, by decide, fun v4 H4 a4 b4 sb4 F4 => ?_⟩
    have sb : Sb f H H4 := ((sb1.trans sb2).trans (sb3.trans (Sb.of sl))).trans sb4
    have hl4 := sb4 _ _ (upd_same (H := H3) (a := l) (o := .lst [.int 0, .int 0, .int 0, .int (1 + v3), .non])) nlf
    obtain ⟨la, ela, hla⟩ : ∃ la : Option Int, ([.int 0, .int 0, .int 0, .int (1 + v3), .non] : List V)[v4.toNat]? = some (oV la) ∧ ∀ i, la = some i → 0 ≤ i ∧ i ≤ far := by
      have hv : v4.toNat < 5 := by omega
      match v4.toNat, hv with
      | 0, _ => exact ⟨some 0, rfl, fun i e => by cases e; omega⟩
      | 1, _ => exact ⟨some 0, rfl, fun i e => by cases e; omega⟩
      | 2, _ => exact ⟨some 0, rfl, fun i e => by cases e; omega⟩
      | 3, _ => exact ⟨some (1 + v3), rfl, fun i e => by cases e; omega⟩
      | 4, _ => exact ⟨none, rfl, fun i e => by cases e⟩
    refine ⟨l, _, v4, oV la, rfl, rfl, .inl (.inl hl4), at_of (j := v4.toNat) (by omega) ela, ?_⟩
    -- the tuple
    have ho4 := sb _ _ ho nof
    refine ⟨_, rfl, _, rfl, (by show 1 ≤ sizeLine; decide), fun p np => ?_⟩
    have sp1 := same_upd (o := .lst [.str "start"]) np
    refine ⟨_, rfl, p, o, _, _, rfl, rfl, upd_same, sp1 _ _ ho4, ?_, fun r nr => ?_⟩
    · rw [List.length_map]
      exact Nat.le_of_lt (small1000 (by show 1 + _ ≤ 1000; omega))
    · have sp2 := same_upd (o := .lst ([.str "start"] ++ own.map V.str)) nr
      have F5 := (F4.same sp1).same sp2
      have er : (upd (upd H4 p (.lst [.str "start"])) r (.lst ([.str "start"] ++ own.map V.str))) r = some (.lst ((("start" : Str) :: own).map V.str)) := upd_same
      refine ⟨f, c, r, _, rfl, F5, er, strs_flow F5 er, by rw [List.length_map]; exact Nat.succ_pos _, by rw [List.length_map]; show own.length + 1 ≤ 1000; omega, fun v H6 hv sb6 F6 => ?_⟩
      obtain ⟨g, hg, rfl⟩ := List.mem_map.mp hv
      refine ⟨_, rfl, _, rfl, _, rfl, (by show 5 ≤ sizeLine; decide), fun t nt => ?_⟩
      have sbA : Sb f H H6 := (sb.trans (Sb.of (sp1.trans sp2))).trans sb6
      have st := same_upd (o := .tup (Wd.row ⟨z, g, 1 + v1, 1 + v1 + v2, la⟩)) nt
      have ntH : H t = none := by
        cases e : H t with
        | none => rfl
        | some y =>
          have ntf : t ≠ f := fun z => by
            obtain ⟨zs6, hf6⟩ := F6.lst
            rw [z, hf6] at nt
            cases nt
          rw [sbA _ _ e ntf] at nt
          cases nt
      exact q t ⟨z, g, 1 + v1, 1 + v1 + v2, la⟩ _ (sbA.trans (Sb.of st)) (F6.same st) ntH upd_same rfl ⟨by
        rcases List.mem_cons.mp hg with e | e
        · exact .inl e
        · exact .inr e, by show 1 ≤ 1 + v1; omega, by show 1 + v1 ≤ 1 + v1 + v2; omega, by show 1 + v1 + v2 ≤ 1000; omega, fun i e => by
          have := hla i e
          omega⟩ ⟨by show 1 + v1 ≤ far; omega, by show 1 + v1 + v2 < 2 * far; omega, fun i e => (hla i e).2⟩
/-! ### _law_bond -/
structure BdOk (pts : List Str) (x : Bd) : Prop where
  one : x.one ∈ pts
  oth : x.oth ∈ pts
  ne : ¬ x.one = x.oth
  b : BOk x.bot x.top
def sp_bond : Sp := fun vs H Q _ => ∃ (f c o : Addr) (pts : List Str) (far : Int), vs = [.ref f, .ref o, .int far] ∧ Flow H f c ∧ H o = some (.lst (pts.map V.str)) ∧ 2 ≤ pts.length ∧ pts.length ≤ 100 ∧ pts.Nodup ∧ 1 ≤ far ∧ far ≤ 250 ∧
  ∀ (t : Addr) (x : Bd) (H' : Hp), Sb f H H' → Flow H' f c → H t = none → H' t = some (.tup x.row) → BdOk pts x → Q (.ref t) H'
theorem bok_lo {a : Int} (h1 : -1000 ≤ a) (h2 : a ≤ 1000) : BOk (some a) none := by
  refine ⟨fun z => (nomatch z.1), fun x e => ?_, fun x e => (nomatch e), fun x y _ e => (nomatch e)⟩
  cases e
  exact ⟨h1, h2⟩
theorem bok_hi {a : Int} (h1 : -1000 ≤ a) (h2 : a ≤ 1000) : BOk none (some a) := by
  refine ⟨fun z => (nomatch z.2), fun x e => (nomatch e), fun x e => ?_, fun x y e _ => (nomatch e)⟩
  cases e
  exact ⟨h1, h2⟩
theorem bok_two {a b : Int} (h1 : -1000 ≤ a) (h2 : a ≤ 1000) (h3 : -1000 ≤ b) (h4 : b ≤ 1000) (h5 : a ≤ b) : BOk (some a) (some b) := by
  refine ⟨fun z => (nomatch z.1), fun x e => ?_, fun x e => ?_, fun x y e e2 => ?_⟩
  · cases e
    exact ⟨h1, h2⟩
  · cases e
    exact ⟨h3, h4⟩
  · cases e
    cases e2
    exact h5
theorem sb_free {f c t : Addr} {H H' : Hp} (sb : Sb f H H') (F : Flow H' f c) (nt : H' t = none) : H t = none := by
  cases e : H t with
  | none => rfl
  | some y =>
    have ntf : t ≠ f := fun z => by
      obtain ⟨zs, hf⟩ := F.lst
      rw [z, hf] at nt
      cases nt
    rw [sb _ _ e ntf] at nt
    cases nt
theorem cal__law_bond (T : Tp K mg) : Cal P w K mg base 4 "_law_bond" sp_bond := by
  obtain ⟨fd, F⟩ := f__law_bond T
  refine cal_of F (g__law_bond T) (b__law_bond F) sc__law_bond (fun vs H Q E h => ?_) (fun cdv A outer s H vs Q E hr h => ?_)
  · obtain ⟨f, c, o, pts, far, rfl, _⟩ := h
    rfl
  · obtain ⟨f, c, o, pts, far, rfl, FL, ho, p2, p3, nd, f0, f1, q⟩ := h
    refine ⟨_, (pss_cons (ps_set (i := 3) sc__law_bond.nd rfl (.inl rfl) (pe_callTy call_list_of (by rfl) (z_list T) bb_list (pa_cons (pv 1) pa_nil)))
      (pss_cons (ps_set (i := 4) sc__law_bond.nd rfl (.inl rfl) (pe_bm PySem.F.plainAttrs_list PySem.F.slot_list_pop PySem.F.type_list_pop mt_popAt (pv 3) (pa_cons (C8.pe_c (cal__law_draw T) hr (by decide) rfl (pa_cons (pv 0) (pa_cons (pe_callB call_len_seq (by rfl) (z_len T) bb_len (pa_cons (pv 3) pa_nil)) pa_nil))) pa_nil)))
      (pss_cons (ps_set (i := 5) sc__law_bond.nd rfl (.inl rfl) (C8.pe_c (cal__law_pick T) hr (by decide) rfl (pa_cons (pv 0) (pa_cons (pv 3) pa_nil))))
      (pss_cons (ps_set (i := 6) sc__law_bond.nd rfl (.inl rfl) (pe_op op_sub (C8.pe_c (cal__law_draw T) hr (by decide) rfl (pa_cons (pv 0) (pa_cons (pe_op op_add (pe_op op_mul pe_int (pv 2)) pe_int) pa_nil))) (pv 2)))
      (pss_cons (ps_set (i := 7) sc__law_bond.nd rfl (.inl rfl) (pe_op op_add (pv 6) (C8.pe_c (cal__law_draw T) hr (by decide) rfl (pa_cons (pv 0) (pa_cons (pe_op op_add (pe_op op_mul pe_int (pv 2)) pe_int) pa_nil)))))
      (pss_cons (ps_set (i := 8) sc__law_bond.nd rfl (.inl rfl) (C8.pe_c (cal__law_draw T) hr (by decide) rfl (pa_cons (pv 0) (pa_cons pe_int pa_nil))))
      (pss_cons (ps_if (pt_cmpR op_eq (pv 8) pe_int (nomark _)) (pss_one (ps_ret (pe_tup (pa_cons (pv 4) (pa_cons (pv 5) (pa_cons (pv 6) (pa_cons pe_non pa_nil))))))) pss_nil)
      (pss_cons (ps_if (pt_cmpR op_eq (pv 8) pe_int (nomark _)) (pss_one (ps_ret (pe_tup (pa_cons (pv 4) (pa_cons (pv 5) (pa_cons pe_non (pa_cons (pv 7) pa_nil))))))) pss_nil)
      (pss_one (ps_ret (pe_tup (pa_cons (pv 4) (pa_cons (pv 5) (pa_cons (pv 6) (pa_cons (pv 7) pa_nil))))))))))))))), ?_⟩
    refine ⟨_, rfl, o, _, rfl, .inl (.inl (.inl ho)), fun l nl => ?_⟩
    have s1 := same_upd (o := .lst (pts.map V.str)) nl
    have F1 := FL.same s1
    obtain ⟨zs, hf⟩ := FL.lst
    obtain ⟨ys, hc⟩ := FL.cells
    have nlf : l ≠ f := (ne_of_none hf nl).symm
    have ncl : c ≠ l := ne_of_none hc nl
    refine ⟨_, rfl, .inl ⟨rfl, _, .inl (.inl upd_same)⟩, _, rfl, _, rfl, l, _, rfl, .inl (.inl (.inl upd_same)), f, c, _, rfl, F1, by rw [List.length_map]; omega, by rw [List.length_map]; omega, fun v H2 v0 v1 sb2 F2 => ?_⟩
    rw [List.length_map] at v1
    have hv : v.toNat < pts.length := by omega
    have hl2 := sb2 _ _ (upd_same (H := H) (a := l) (o := .lst (pts.map V.str))) nlf
    refine ⟨l, _, v, v.toNat, .str pts[v.toNat], rfl, rfl, hl2, by omega, by omega, ?_, ?_, ?_⟩
    · unfold seqIndex?
      rw [if_neg (show ¬ v < 0 by omega), if_pos (by simp only [Bool.and_eq_true, decide_eq_true_eq, List.length_map]; omega)]
    · rw [List.getElem?_map, List.getElem?_eq_getElem hv]
      rfl
    · have F3 : Flow (upd H2 l (.lst ((pts.map V.str).eraseIdx v.toNat))) f c := F2.upd nlf.symm ncl
      have hl3 : (upd H2 l (.lst ((pts.map V.str).eraseIdx v.toNat))) l = some (.lst ((pts.eraseIdx v.toNat).map V.str)) := by rw [upd_same, erase_map]
      have hlen : ((pts.eraseIdx v.toNat).map V.str).length = pts.length - 1 := by rw [List.length_map, List.length_eraseIdx_of_lt hv]
      have sb3 : Sb f H (upd H2 l (.lst ((pts.map V.str).eraseIdx v.toNat))) := fun b x e nb => by
        rw [upd_ne (ne_of_none e nl)]
        exact sb2 _ _ (s1 _ _ e) nb
      refine ⟨_, rfl, _, rfl, f, c, l, _, rfl, F3, hl3, nlf, by omega, by omega, fun y H4 hy sb4 F4 => ?_⟩
      obtain ⟨g, hg, rfl⟩ := List.mem_map.mp hy
      have nd2 : (pts[v.toNat] :: pts.eraseIdx v.toNat).Nodup := (pull_perm pts v.toNat hv).nodup_iff.mpr nd
      have hgp : g ∈ pts := (pull_perm pts v.toNat hv).mem_iff.mp (List.mem_cons_of_mem _ hg)
      have hne : ¬ pts[v.toNat] = g := fun e => (List.nodup_cons.mp nd2).1 (e ▸ hg)
      have sbA := sb3.trans sb4
      refine ⟨_, rfl, _, rfl, 3, far, rfl, rfl, .inl ⟨by decide, by decide⟩, _, 1, rfl, rfl, f, c, _, rfl, F4, by omega, by omega, fun v5 H5 a5 b5 sb5 F5 => ⟨_, rfl, _, _, rfl, rfl, ?_⟩⟩
      refine ⟨_, rfl, _, rfl, _, rfl, 2, far, rfl, rfl, .inl ⟨by decide, by decide⟩, _, 1, rfl, rfl, f, c, _, rfl, F5, by omega, by omega, fun v6 H6 a6 b6 sb6 F6 => ⟨_, _, rfl, rfl, ?_⟩⟩
      refine ⟨_, rfl, f, c, 5, rfl, F6, by decide, by decide, fun v7 H7 a7 b7 sb7 F7 => ?_⟩
      have sbB := ((sbA.trans sb5).trans sb6).trans sb7
      have hp : pts[v.toNat] ∈ pts := List.getElem_mem hv
      have done : ∀ (t : Addr) (bo to : Option Int), BOk bo to → H7 t = none → Q (.ref t) (upd H7 t (.tup [.str pts[v.toNat], .str g, oV bo, oV to])) := fun t bo to hb nt =>
        q t ⟨pts[v.toNat], g, bo, to⟩ _ (sbB.trans (Sb.of (same_upd nt))) (F7.same (same_upd nt)) (sb_free sbB F7 nt) upd_same ⟨hp, hgp, hne, hb⟩
      refine ⟨_, rfl, rfl, _, rfl, ite2 (fun e => ?_) (fun e => ?_)⟩
      · refine ⟨_, rfl, _, rfl, _, rfl, (by show 4 ≤ sizeLine; decide), fun t nt => done t (some (v5 - far)) none (bok_lo (by omega) (by omega)) nt⟩
      · refine ⟨_, rfl, rfl, _, rfl, ite2 (fun e => ?_) (fun e => ?_)⟩
        · refine ⟨_, rfl, _, rfl, _, rfl, (by show 4 ≤ sizeLine; decide), fun t nt => done t none (some (v5 - far + v6)) (bok_hi (by omega) (by omega)) nt⟩
        · refine ⟨_, rfl, _, rfl, _, rfl, _, rfl, (by show 4 ≤ sizeLine; decide), fun t nt => done t (some (v5 - far)) (some (v5 - far + v6)) (bok_two (by omega) (by omega) (by omega) (by omega) (by omega)) nt⟩
end
end Tw

set_option maxHeartbeats 4000000
namespace Tw
open PySem PySem.Spec PyProof.Rows L2
theorem cut_pre (ns : List Str) {a : Int} (h : 0 ≤ a) : cutV (ns.map V.str) none (some a) = (ns.take a.toNat).map V.str := by
  obtain ⟨k, rfl⟩ : ∃ k : Nat, a = k := ⟨a.toNat, by omega⟩
  unfold cutV
  rw [HT.sIx_none, HT.sIx_nat, List.drop_zero, Nat.sub_zero, Int.toNat_natCast, List.map_take]
  by_cases hk : k ≤ (ns.map V.str).length
  · rw [Nat.min_eq_left hk]
  · have past := Nat.le_of_lt (Nat.not_le.mp hk)
    rw [Nat.min_eq_right past, List.take_length]
    exact (List.take_of_length_le past).symm
theorem cut_suf (ns : List Str) {a : Int} (h : 0 ≤ a) : cutV (ns.map V.str) (some a) none = (ns.drop a.toNat).map V.str := by
  obtain ⟨k, rfl⟩ : ∃ k : Nat, a = k := ⟨a.toNat, by omega⟩
  unfold cutV
  rw [HT.sIx_none, HT.sIx_nat, Int.toNat_natCast, List.map_drop]
  by_cases hk : k ≤ (ns.map V.str).length
  · rw [Nat.min_eq_left hk]
    exact List.take_of_length_le (by rw [List.length_drop]; exact Nat.le_refl _)
  · have past := Nat.le_of_lt (Nat.not_le.mp hk)
    rw [Nat.min_eq_right past, List.drop_length, List.take_nil]
    exact (List.drop_of_length_le past).symm
/-- what a drawn picture keeps -/
structure MdOk (m : Md) : Prop where
  last : 1 ≤ m.last ∧ m.last ≤ 1000
  nd : (m.own ++ m.wd.map (·.en)).Nodup
  pool : ∀ z ∈ m.own ++ m.wd.map (·.en), z ∈ pool
  wd : ∀ x ∈ m.wd, WdOk m.own x
  bd : ∀ x ∈ m.bd, BdOk m.pts x
  len : m.own.length ≤ 10 ∧ m.wd.length ≤ 4 ∧ m.bd.length ≤ 40
def Near (far : Int) (x : Wd) : Prop := x.lo ≤ far ∧ x.hi < 2 * far ∧ ∀ i, x.la = some i → i ≤ far
theorem pts_nd {own : List Str} {ends : List Str} (nd : (own ++ ends).Nodup) (hp : ∀ z ∈ own ++ ends, z ∈ pool) : (("start" : Str) :: (own ++ ends)).Nodup :=
  List.nodup_cons.mpr ⟨fun h => (pool_nm (hp _ h)).2 rfl, nd⟩
section
variable {P : Program} {w : World} {K : PySem.W.Frag} {mg : Str → Option Value} {base : Heap}
def sp_drawn : Sp := fun vs H Q _ => ∃ (f c : Addr) (a b e far last : Int), vs = [.ref f, .int a, .int b, .int e, .int far, .int last] ∧ Flow H f c ∧ 1 ≤ a ∧ a ≤ 10 ∧ 0 ≤ b ∧ b ≤ 4 ∧ 0 ≤ e ∧ e ≤ 40 ∧ 1 ≤ far ∧ far ≤ 500 ∧ (e = 0 ∨ far ≤ 250) ∧ 1 ≤ last ∧ last ≤ 1000 ∧
  ∀ (d : Addr) (m : Md) (H' : Hp), Sb f H H' → Flow H' f c → H d = none → MdAt H' d m → MdOk m → m.last = last → m.own.length = a.toNat → m.wd.length = b.toNat → m.bd.length = e.toNat → (∀ x ∈ m.wd, Near far x) → Q (.ref d) H'
def sp_drawnX : Sp := fun vs H Q _ => ∃ (f c : Addr) (a b e far last : Int), vs = [.ref f, .int a, .int b, .int e, .int far, .int last] ∧ Flow H f c ∧ 1 ≤ a ∧ a ≤ 10 ∧ 0 ≤ b ∧ b ≤ 4 ∧ 0 ≤ e ∧ e ≤ 40 ∧ 1 ≤ far ∧ far ≤ 500 ∧ (e = 0 ∨ far ≤ 250) ∧ 1 ≤ last ∧ last ≤ 1000 ∧
  ∀ (d o u b' : Addr) (m : Md) (H' : Hp), Sb f H H' → Flow H' f c → H d = none → H b' = none → MdX H' d o u b' m → MdOk m → m.last = last → m.own.length = a.toNat → m.wd.length = b.toNat → m.bd.length = e.toNat → (∀ x ∈ m.wd, Near far x) → Q (.ref d) H'
theorem cal_drawnX (T : Tp K mg) : Cal P w K mg base 5 "_law_drawn" sp_drawnX := by
  obtain ⟨fd, F⟩ := f__law_drawn T
  refine cal_of F (g__law_drawn T) (b__law_drawn F) sc__law_drawn (fun vs H Q E h => ?_) (fun cdv A outer s H vs Q E hr h => ?_)
  · obtain ⟨f, c, a, b, e, far, last, rfl, _⟩ := h
    rfl
  · obtain ⟨f, c, a, b, e, far, last, rfl, FL, a1, a2, b1, b2, e1, e2, far1, far2, far3, last1, last2, q⟩ := h
    have hu := hu_of hr
    obtain ⟨zs, hf⟩ := FL.lst
    obtain ⟨ys, hc⟩ := FL.cells
    refine ⟨_, (pss_cons (ps_set (i := 6) sc__law_drawn.nd rfl (.inl rfl) (C8.pe_c (cal__law_model T) hr (by decide) rfl (pa_cons (pv 5) pa_nil)))
      (pss_cons (ps_set (i := 7) sc__law_drawn.nd rfl (.inl rfl) (C8.pe_c (cal__law_names T) hr (by decide) rfl (pa_cons (pv 0) (pa_cons (pe_op op_add (pv 1) (pv 2)) pa_nil))))
      (pss_cons (ps_dput hu (pv 6) pe_str (pe_slice sl_list (pv 7) po_none (po_some (pv 1))) rfl)
      (pss_cons (ps_for PassesOwn.never rfl (pi_list (pe_slice sl_list (pv 7) (po_some (pv 1)) po_none)) (pg_name (i := 8) sc__law_drawn.nd rfl (.inl rfl))
        (pss_one (ps_expr (pe_bm PySem.F.plainAttrs_list PySem.F.slot_list_append PySem.F.type_list_append mt_append (pe_dget hu (pv 6) pe_str (fun _ _ => rfl)) (pa_cons (C8.pe_c (cal__law_wind T) hr (by decide) rfl (pa_cons (pv 0) (pa_cons (pv 8) (pa_cons (pe_dget hu (pv 6) pe_str (fun _ _ => rfl)) (pa_cons (pv 4) pa_nil))))) pa_nil)))))
      (pss_cons (ps_for PassesOwn.never rfl (pi_range1 rfl (z_range T) (pa_cons (pv 3) pa_nil)) (pg_name (i := 9) sc__law_drawn.nd rfl (.inl rfl))
        (pss_one (ps_expr (pe_bm PySem.F.plainAttrs_list PySem.F.slot_list_append PySem.F.type_list_append mt_append (pe_dget hu (pv 6) pe_str (fun _ _ => rfl)) (pa_cons (C8.pe_c (cal__law_bond T) hr (by decide) rfl (pa_cons (pv 0) (pa_cons (C8.pe_c (cal__law_points T) hr (by decide) rfl (pa_cons (pv 6) pa_nil)) (pa_cons (pv 4) pa_nil)))) pa_nil)))))
      (pss_one (ps_ret (pv 6)))))))), ?_⟩
    refine ⟨_, rfl, last, rfl, fun d o0 u b' H1 s1 nd no0 nu nb' M1 => ?_⟩
    have F1 := FL.same s1
    refine ⟨_, rfl, _, rfl, _, rfl, _, _, rfl, rfl, f, c, a + b, rfl, F1, by omega, by omega, fun g ns H2 sb2 F2 ng hg len nns hp => ?_⟩
    have sbH2 : Sb f H H2 := (Sb.of s1).trans sb2
    have M2 := M1.sb F1 sb2
    -- m['own'] = names[:own]
    refine ⟨_, rfl, _, rfl, a, rfl, g, _, rfl, .inl (.inl hg), fun o no => ?_⟩
    rw [cut_pre ns (by omega)]
    have s3 := same_upd (o := .lst ((ns.take a.toNat).map V.str)) no
    have M3 := M2.same s3
    have F3 := F2.same s3
    have noH : H o = none := sb_free sbH2 F2 no
    refine ⟨_, rfl, d, _, rfl, DPut.k (k := kOwn) M3.dk (by show 4 < sizeLine; decide), ?_⟩
    rw [mk_putOwn]
    have hdo : ∀ x y, (upd H2 o (.lst ((ns.take a.toNat).map V.str))) x = some y → x ≠ d → (upd (upd H2 o (.lst ((ns.take a.toNat).map V.str))) d (.dK (mk last o u b'))) x = some y := fun x y ex nx => by
      rw [upd_ne nx]
      exact ex
    obtain ⟨ws3, hw3, _⟩ := M2.wd
    obtain ⟨bs3, hb3, _⟩ := M2.bd
    have nod : o ≠ d := (ne_of_none M2.dk no).symm
    have nou : o ≠ u := (ne_of_none hw3 no).symm
    have nob : o ≠ b' := (ne_of_none hb3 no).symm
    have nfd : f ≠ d := ne_of_none hf nd
    have ncd : c ≠ d := ne_of_none hc nd
    have nfu : f ≠ u := ne_of_none hf nu
    have ncu : c ≠ u := ne_of_none hc nu
    have nfb : f ≠ b' := ne_of_none hf nb'
    have ncb : c ≠ b' := ne_of_none hc nb'
    have M4 : MdX (upd (upd H2 o (.lst ((ns.take a.toNat).map V.str))) d (.dK (mk last o u b'))) d o u b' ⟨last, ns.take a.toNat, [], []⟩ := by
      have dd := M3.dk
      refine ⟨upd_same, hdo _ _ upd_same nod, ⟨ws3, hdo _ _ (s3 _ _ hw3) (ne_of (s3 _ _ hw3) dd (by intro z; cases z)), ?_⟩, ⟨bs3, hdo _ _ (s3 _ _ hb3) (ne_of (s3 _ _ hb3) dd (by intro z; cases z)), ?_⟩, nou, nob, M3.nwb⟩
      · obtain ⟨ws, h1, h2⟩ := M2.wd
        rw [hw3] at h1
        cases h1
        have e0 := h2.len
        have e1 : ws3 = [] := List.length_eq_zero_iff.mp e0
        rw [e1]
        exact .nil
      · obtain ⟨ws, h1, h2⟩ := M2.bd
        rw [hb3] at h1
        cases h1
        have e0 := h2.len
        have e1 : bs3 = [] := List.length_eq_zero_iff.mp e0
        rw [e1]
        exact .nil
    have F4 : Flow (upd (upd H2 o (.lst ((ns.take a.toNat).map V.str))) d (.dK (mk last o u b'))) f c := F3.upd nfd ncd
    have sbH4 : Sb f H (upd (upd H2 o (.lst ((ns.take a.toNat).map V.str))) d (.dK (mk last o u b'))) := fun x y ex nx => hdo _ _ (s3 _ _ (sbH2 _ _ ex nx)) (ne_of_none ex nd)
    have hg4 : (upd (upd H2 o (.lst ((ns.take a.toNat).map V.str))) d (.dK (mk last o u b'))) g = some (.lst (ns.map V.str)) := hdo _ _ (s3 _ _ hg) (ne_of (s3 _ _ hg) M3.dk (by intro z; cases z))
    -- for end in names[own:]
    refine ⟨_, rfl, _, rfl, a, rfl, g, _, rfl, .inl (.inl hg4), fun r nr => ?_⟩
    rw [cut_suf ns (by omega)]
    have s5 := same_upd (o := .lst ((ns.drop a.toNat).map V.str)) nr
    have M5 := M4.same s5
    have F5 := F4.same s5
    obtain ⟨ws4, hw4, _⟩ := M4.wd
    have nru : r ≠ u := (ne_of_none hw4 nr).symm
    have elen : (ns.take a.toNat).length = a.toNat := by
      rw [List.length_take]
      omega
    have blen : (ns.drop a.toNat).length = b.toNat := by
      rw [List.length_drop]
      omega
    have sbH5 := sbH4.trans (Sb.of s5)
    have spl : ns.take a.toNat ++ ns.drop a.toNat = ns := List.take_append_drop _ _
    refine ⟨r, rfl, ⟨_, .inl (.inl upd_same)⟩, for_list (K := K) (a := r) (xs := (ns.drop a.toNat).map V.str) (fun i σ H6 => ∃ (y : Option V) (ds : List Wd), σ = [some (.ref f), some (.int a), some (.int b), some (.int e), some (.int far), some (.int last), some (.ref d), some (.ref g), y, none] ∧
        Sb f H H6 ∧ Flow H6 f c ∧ MdX H6 d o u b' ⟨last, ns.take a.toNat, ds, []⟩ ∧ H6 r = some (.lst ((ns.drop a.toNat).map V.str)) ∧ ds.map (·.en) = (ns.drop a.toNat).take i ∧ ∀ x ∈ ds, WdOk (ns.take a.toNat) x ∧ Near far x)
      ⟨none, [], rfl, sbH5, F5, M5, upd_same, rfl, fun x hx => nomatch hx⟩ (fun i σ H6 _ ⟨_, _, _, _, _, _, h, _⟩ => .inl (.inl h)) ?_ ?_⟩
    · rintro i x σ H6 hx ⟨y, ds, rfl, sb6, F6, M6, hr6, eds, hds⟩
      rw [List.getElem?_map] at hx
      cases ez : (ns.drop a.toNat)[i]? with
      | none =>
        rw [ez] at hx
        cases hx
      | some z =>
        rw [ez] at hx
        cases hx
        obtain ⟨ws6, hw6, rw6⟩ := M6.wd
        refine ⟨_, rfl, d, _, rfl, mk_wd M6.dk, .inl ⟨rfl, _, .inl (.inl hw6)⟩, _, rfl, _, rfl, _, rfl, d, _, rfl, mk_own M6.dk, _, rfl, f, c, o, z, _, far, rfl, F6, M6.own, by show (ns.take a.toNat).length ≤ 14; omega, far1, far2, fun t x H7 sb7 F7 nt ht ex ok near => ?_⟩
        have M7 := M6.sb F6 sb7
        obtain ⟨ws7, hw7, rw7⟩ := M7.wd
        refine ⟨u, ws7, _, rfl, rfl, hw7, ?_, ?_⟩
        · rw [rw7.len, List.length_map]
          have hl : ds.length = i := by
            have := congrArg List.length eds
            rw [List.length_map, List.length_take] at this
            have hi : i < (ns.drop a.toNat).length := (List.getElem?_eq_some_iff.mp ez).1
            omega
          have hi : i < (ns.drop a.toNat).length := (List.getElem?_eq_some_iff.mp ez).1
          show ds.length < sizeLine
          exact small1000 (by omega)
        · refine ⟨_, ds ++ [x], rfl, ?_, F7.upd nfu ncu, M7.addW hw7 rw7 ht, ?_, ?_, ?_⟩
          · exact fun p v ep np => by
              rw [upd_ne (ne_of_none ep nu)]
              exact sb7 _ _ (sb6 _ _ ep np) np
          · rw [upd_ne nru]
            exact sb7 _ _ hr6 (strs_flow F6 hr6)
          · rw [List.map_append, eds, List.take_add_one, ez]
            show _ ++ [x.en] = _ ++ [z]
            rw [ex]
          · intro v hv
            rcases List.mem_append.mp hv with h | h
            · exact hds v h
            · have e : v = x := List.mem_singleton.mp h
              rw [e]
              exact ⟨ok, near⟩
    · rintro σ H6 ⟨y, ds, rfl, sb6, F6, M6, hr6, eds, hds⟩
      have eds : ds.map (·.en) = ns.drop a.toNat := by
        rw [eds]
        exact List.take_of_length_le (by rw [List.length_map]; exact Nat.le_refl _)
      have dlen : ds.length = b.toNat := by
        have := congrArg List.length eds
        rw [List.length_map] at this
        omega
      have pnd : (("start" : Str) :: (ns.take a.toNat ++ ds.map (·.en))).Nodup := pts_nd (by rw [eds, spl]; exact nns) (by rw [eds, spl]; exact hp)
      -- the ties
      refine ⟨_, rfl, e, rfl, by omega, by omega, ?_⟩
      refine for_range (lo := 0) (n := e.toNat) (fun i σ H7 => ∃ (y9 : Option V) (es : List Bd), σ = [some (.ref f), some (.int a), some (.int b), some (.int e), some (.int far), some (.int last), some (.ref d), some (.ref g), y, y9] ∧
        Sb f H H7 ∧ Flow H7 f c ∧ MdX H7 d o u b' ⟨last, ns.take a.toNat, ds, es⟩ ∧ es.length = i ∧ ∀ x ∈ es, BdOk (("start" : Str) :: (ns.take a.toNat ++ ds.map (·.en))) x) ⟨none, [], rfl, sb6, F6, M6, rfl, fun x hx => nomatch hx⟩ ?_ ?_
      · rintro i σ H7 hi ⟨y9, es, rfl, sb7, F7, M7, el, hes⟩
        obtain ⟨bs7, hb7, rb7⟩ := M7.bd
        refine ⟨_, rfl, d, _, rfl, mk_bd M7.dk, .inl ⟨rfl, _, .inl (.inl hb7)⟩, _, rfl, _, rfl, d, _, rfl, M7.at, by show (ns.take a.toNat).length ≤ 14; omega, by show ds.length ≤ 14; omega, fun pl H8 s8 npl hpl => ?_⟩
        have F8 := F7.same s8
        refine ⟨_, rfl, f, c, pl, _, far, rfl, F8, hpl, ?_, ?_, pnd, far1, by omega, fun t x H9 sb9 F9 nt ht ok => ?_⟩
        · show 2 ≤ (("start" : Str) :: (ns.take a.toNat ++ ds.map (·.en))).length
          rw [List.length_cons, List.length_append, elen]
          omega
        · show (("start" : Str) :: (ns.take a.toNat ++ ds.map (·.en))).length ≤ 100
          rw [List.length_cons, List.length_append, elen, List.length_map]
          omega
        · have M9 := (M7.same s8).sb F8 sb9
          obtain ⟨bs9, hb9, rb9⟩ := M9.bd
          refine ⟨b', bs9, _, rfl, rfl, hb9, ?_, _, es ++ [x], rfl, ?_, F9.upd nfb ncb, M9.addB hb9 rb9 ht, by rw [List.length_append, el]; rfl, ?_⟩
          · rw [rb9.len, List.length_map]
            show es.length < sizeLine
            exact small1000 (by omega)
          · exact fun p v ep np => by
              rw [upd_ne (ne_of_none ep nb')]
              exact sb9 _ _ (s8 _ _ (sb7 _ _ ep np)) np
          · intro v hv
            rcases List.mem_append.mp hv with h | h
            · exact hes v h
            · have e : v = x := List.mem_singleton.mp h
              rw [e]
              exact ok
      · rintro σ H7 ⟨y9, es, rfl, sb7, F7, M7, el, hes⟩
        refine ⟨_, rfl, q d o u b' ⟨last, ns.take a.toNat, ds, es⟩ H7 sb7 F7 nd nb' M7 ⟨⟨last1, last2⟩, ?_, ?_, fun x hx => (hds x hx).1, hes, ?_⟩ rfl elen dlen el fun x hx => (hds x hx).2⟩
        · show (ns.take a.toNat ++ ds.map (·.en)).Nodup
          rw [eds, spl]
          exact nns
        · show ∀ z ∈ ns.take a.toNat ++ ds.map (·.en), z ∈ pool
          rw [eds, spl]
          exact hp
        · show (ns.take a.toNat).length ≤ 10 ∧ ds.length ≤ 4 ∧ es.length ≤ 40
          omega
theorem cal_imp {k : Nat} {x : Str} {sp sp' : Sp} {dvs : List V} (c : C8.Cal P w K mg base k x sp dvs) (h : ∀ vs H Q E, sp' vs H Q E → sp vs H Q E) : C8.Cal P w K mg base k x sp' dvs :=
  let ⟨f, fd, ps, ds, F, a, b, c, d⟩ := c.ex
  ⟨f, fd, ps, ds, F.imp h, a, b, c, d⟩
theorem cal__law_drawn (T : Tp K mg) : Cal P w K mg base 5 "_law_drawn" sp_drawn := cal_imp (cal_drawnX T) fun vs H Q E h => by
  obtain ⟨f, c, a, b, e, far, last, e0, FL, h1, h2, h3, h4, h5, h6, h7, h8, h9, h10, h11, q⟩ := h
  exact ⟨f, c, a, b, e, far, last, e0, FL, h1, h2, h3, h4, h5, h6, h7, h8, h9, h10, h11, fun d o u b' m H' sb F' nd _ M => q d m H' sb F' nd M.at⟩
end
end Tw

set_option maxHeartbeats 4000000
namespace Tw
open PySem PySem.Spec PyProof.Rows L2
theorem nd_take {α : Type} {l : List α} {i : Nat} {z : α} (nd : l.Nodup) (e : l[i]? = some z) : ¬ z ∈ l.take i := by
  have h : (l.take (i + 1)).Nodup := List.Sublist.nodup (List.take_sublist _ _) nd
  rw [List.take_add_one, e] at h
  intro m
  exact (List.nodup_append.mp h).2.2 z m z (List.mem_singleton.mpr rfl) rfl
theorem row_of {xs : List V} {H : Hp} {α : Type} {f : α → List V} {l : List α} {i : Nat} {x : V} (R : Rows H xs (l.map f)) (hx : xs[i]? = some x) : ∃ t y, x = .ref t ∧ l[i]? = some y ∧ H t = some (.tup (f y)) := by
  obtain ⟨t, r, e, hr, ht⟩ := R.at hx
  rw [List.getElem?_map] at hr
  cases ey : l[i]? with
  | none =>
    rw [ey] at hr
    cases hr
  | some y =>
    rw [ey] at hr
    cases hr
    exact ⟨t, y, e, rfl, ht⟩
section
variable {P : Program} {w : World} {K : PySem.W.Frag} {mg : Str → Option Value} {base : Heap}
def sp_web (K : PySem.W.Frag) : Sp := fun vs H Q _ => ∃ (d : Addr) (m : Md), vs = [.ref d] ∧ MdAt H d m ∧ MdOk m ∧ ∀ (p : Addr) (H' : Hp), Same H H' → H p = none → WebAt (CW K) H' p m → Q (.ref p) H'
theorem cal__law_web (T : Tp K mg) : Cal P w K mg base 7 "_law_web" (sp_web K) := by
  obtain ⟨fd, F⟩ := f__law_web T
  refine cal_of F (g__law_web T) (b__law_web F) sc__law_web (fun vs H Q E h => ?_) (fun cdv A outer s H vs Q E hr h => ?_)
  · obtain ⟨d, m, rfl, _⟩ := h
    rfl
  · obtain ⟨d, m, rfl, M, ok, q⟩ := h
    have hu := hu_of hr
    obtain ⟨o, u, b, ws, bs, h1, h2, h3, h4, h5, h6, h7⟩ := M.ex
    have hlen := ok.len
    have ndo : m.own.Nodup := (List.nodup_append.mp ok.nd).1
    have nde : (m.wd.map (·.en)).Nodup := (List.nodup_append.mp ok.nd).2.1
    refine ⟨_, (pss_cons (ps_set (i := 1) sc__law_web.nd rfl (.inl rfl) (C8.pe_mk (mak_Web T) hr (by decide) rfl (pa_cons (pe_dget hu (pv 0) pe_str (fun _ _ => rfl)) pa_nil)))
      (pss_cons (ps_for PassesOwn.never rfl (pi_list (pe_dget hu (pv 0) pe_str (fun _ _ => rfl))) (pg_name (i := 2) sc__law_web.nd rfl (.inl rfl))
        (pss_one (ps_set (i := 1) sc__law_web.nd rfl (.inl rfl) (C8.pe_mt (met_Web_with_moment T) hr (by decide) (pv 1) (pa_cons (pv 2) pa_nil)))))
      (pss_cons (ps_for PassesOwn.never rfl (pi_list (pe_dget hu (pv 0) pe_str (fun _ _ => rfl))) (pg_tup rfl (pgs_cons (pg_name (i := 3) sc__law_web.nd rfl (.inl rfl)) (pgs_cons (pg_name (i := 4) sc__law_web.nd rfl (.inl rfl)) (pgs_cons (pg_name (i := 5) sc__law_web.nd rfl (.inl rfl)) (pgs_cons (pg_name (i := 6) sc__law_web.nd rfl (.inl rfl)) (pgs_cons (pg_name (i := 7) sc__law_web.nd rfl (.inl rfl)) pgs_nil))))))
        (pss_one (ps_set (i := 1) sc__law_web.nd rfl (.inl rfl) (pe_mg0 (met_Web_with_span T) hr (by decide) (pv 1) (pa_cons (pv 3) (pa_cons (pv 4) (pa_cons (pv 5) (pa_cons (pv 6) pa_nil)))) (pk_cons (pv 7) pk_nil)))))
      (pss_cons (ps_for PassesOwn.never rfl (pi_list (pe_dget hu (pv 0) pe_str (fun _ _ => rfl))) (pg_tup rfl (pgs_cons (pg_name (i := 8) sc__law_web.nd rfl (.inl rfl)) (pgs_cons (pg_name (i := 9) sc__law_web.nd rfl (.inl rfl)) (pgs_cons (pg_name (i := 10) sc__law_web.nd rfl (.inl rfl)) (pgs_cons (pg_name (i := 11) sc__law_web.nd rfl (.inl rfl)) pgs_nil)))))
        (pss_one (ps_set (i := 1) sc__law_web.nd rfl (.inl rfl) (pe_mg0 (met_Web_with_tie T) hr (by decide) (pv 1) (pa_cons (pv 8) (pa_cons (pv 9) pa_nil)) (pk_cons (pv 10) (pk_cons (pv 11) pk_nil))))))
      (pss_one (ps_ret (pv 1))))))), ?_⟩
    refine ⟨_, rfl, d, _, rfl, mk_by h1, fun x dx nx ndx ne => ⟨x, dx, m.last, rfl, upd_same, ok.last.1, ok.last.2, fun a0 b0 c0 H1 kp hp ha0 hb0 hc0 => ⟨rfl, ?_⟩⟩⟩
    have s1 : Same H H1 := Same.made nx ndx kp
    have W1 : WebAt (CW K) H1 x ⟨m.last, [], [], []⟩ := ⟨⟨dx, a0, b0, c0, [], [], hp, ha0, hb0, .nil, hc0, .nil⟩, ⟨by show 0 ≤ 10; decide, by show 0 ≤ 4; decide, by show 0 ≤ 40; decide⟩, ok.last⟩
    -- the moments
    refine ⟨_, rfl, d, _, rfl, mk_own (s1 _ _ h1), o, rfl, ⟨_, .inl (.inl (s1 _ _ h2))⟩, for_list (K := K) (a := o) (xs := m.own.map V.str) (fun i σ H2 => ∃ (p : Addr) (y : Option V), σ = [some (.ref d), some (.ref p), y, none, none, none, none, none, none, none, none, none] ∧
      Same H H2 ∧ H p = none ∧ WebAt (CW K) H2 p ⟨m.last, m.own.take i, [], []⟩) ⟨x, none, rfl, s1, nx, W1⟩ (fun i σ H2 _ ⟨_, _, _, s2, _⟩ => .inl (.inl (s2 _ _ h2))) ?_ ?_⟩
    · rintro i v σ H2 hv ⟨p, y, rfl, s2, np, W2⟩
      rw [List.getElem?_map] at hv
      cases ez : m.own[i]? with
      | none =>
        rw [ez] at hv
        cases hv
      | some z =>
        rw [ez] at hv
        cases hv
        have hi : i < m.own.length := (List.getElem?_eq_some_iff.mp ez).1
        have hz := pool_nm (ok.pool z (List.mem_append.mpr (.inl (List.mem_of_getElem? ez))))
        obtain ⟨dx2, _, _, _, _, _, g1, _⟩ := W2.ex
        refine ⟨_, rfl, p, dx2, _, rfl, g1, wf_no (by decide +kernel), _, rfl, p, _, z, rfl, W2, hz.1, ?_, ?_, fun r H3 s3 nr W3 => ?_⟩
        · intro hm
          rcases List.mem_cons.mp hm with e | e
          · exact hz.2 e
          · rcases List.mem_append.mp e with e | e
            · exact nd_take ndo ez e
            · cases e
        · show (m.own.take i).length < 10
          rw [List.length_take]
          omega
        · refine ⟨r, _, rfl, s2.trans s3, s2.free nr, ?_⟩
          rw [List.take_add_one, ez]
          exact W3
    · rintro σ H2 ⟨p, y, rfl, s2, np, W2⟩
      have e0 : m.own.take (m.own.map V.str).length = m.own := List.take_of_length_le (by rw [List.length_map]; exact Nat.le_refl _)
      rw [e0] at W2
      -- the spans
      refine ⟨_, rfl, d, _, rfl, mk_wd (s2 _ _ h1), u, rfl, ⟨_, .inl (.inl (s2 _ _ h3))⟩, for_list (K := K) (a := u) (xs := ws) (fun i σ H3 => ∃ (p : Addr) (y3 y4 y5 y6 y7 : Option V), σ = [some (.ref d), some (.ref p), y, y3, y4, y5, y6, y7, none, none, none, none] ∧
        Same H H3 ∧ H p = none ∧ WebAt (CW K) H3 p ⟨m.last, m.own, m.wd.take i, []⟩) ⟨p, none, none, none, none, none, rfl, s2, np, W2⟩ (fun i σ H3 _ ⟨_, _, _, _, _, _, _, s3, _⟩ => .inl (.inl (s3 _ _ h3))) ?_ ?_⟩
      · rintro i v σ H3 hv ⟨p, y3, y4, y5, y6, y7, rfl, s3, np, W3⟩
        obtain ⟨t, y, rfl, ey, ht⟩ := row_of h4 hv
        have hi : i < m.wd.length := (List.getElem?_eq_some_iff.mp ey).1
        have hy := ok.wd y (List.mem_of_getElem? ey)
        have een : (m.wd.map (·.en))[i]? = some y.en := by
          rw [List.getElem?_map, ey]
          rfl
        have hmem : y.en ∈ m.own ++ m.wd.map (·.en) := List.mem_append.mpr (.inr (List.mem_of_getElem? een))
        have hz := pool_nm (ok.pool y.en hmem)
        obtain ⟨dx3, _, _, _, _, _, g1, _⟩ := W3.ex
        refine ⟨t, y.row, rfl, .inl (.inl (s3 _ _ ht)), rfl, _, _, rfl, _, _, rfl, _, _, rfl, _, _, rfl, _, _, rfl, rfl, ?_⟩
        refine ⟨_, rfl, p, dx3, _, rfl, g1, wf_no (by decide +kernel), _, rfl, _, rfl, _, rfl, _, rfl, _, rfl, rfl, rfl, p, _, y, rfl, W3, ⟨hz.1, ?_, hy.bg, hy.lo, hy.hi, hy.top, hy.la, ?_⟩, fun r H4 s4 nr W4 => ?_⟩
        · intro hm
          rcases List.mem_cons.mp hm with e | e
          · exact hz.2 e
          · rcases List.mem_append.mp e with e | e
            · exact (List.nodup_append.mp ok.nd).2.2 _ e _ (List.mem_of_getElem? een) rfl
            · have e : y.en ∈ (m.wd.map (·.en)).take i := by
                rw [← List.map_take]
                exact e
              exact nd_take nde een e
        · show (m.wd.take i).length < 4
          rw [List.length_take]
          omega
        · refine ⟨r, _, _, _, _, _, rfl, s3.trans s4, s3.free nr, ?_⟩
          rw [List.take_add_one, ey]
          exact W4
      · rintro σ H3 ⟨p, y3, y4, y5, y6, y7, rfl, s3, np, W3⟩
        have ew : ws.length = m.wd.length := by rw [h4.len, List.length_map]
        have e0 : m.wd.take ws.length = m.wd := List.take_of_length_le (by omega)
        rw [e0] at W3
        -- the ties
        refine ⟨_, rfl, d, _, rfl, mk_bd (s3 _ _ h1), b, rfl, ⟨_, .inl (.inl (s3 _ _ h5))⟩, for_list (K := K) (a := b) (xs := bs) (fun i σ H4 => ∃ (p : Addr) (y8 y9 y10 y11 : Option V), σ = [some (.ref d), some (.ref p), y, y3, y4, y5, y6, y7, y8, y9, y10, y11] ∧
          Same H H4 ∧ H p = none ∧ WebAt (CW K) H4 p ⟨m.last, m.own, m.wd, m.bd.take i⟩) ⟨p, none, none, none, none, rfl, s3, np, W3⟩ (fun i σ H4 _ ⟨_, _, _, _, _, _, s4, _⟩ => .inl (.inl (s4 _ _ h5))) ?_ ?_⟩
        · rintro i v σ H4 hv ⟨p, y8, y9, y10, y11, rfl, s4, np, W4⟩
          obtain ⟨t, y, rfl, ey, ht⟩ := row_of h6 hv
          have hi : i < m.bd.length := (List.getElem?_eq_some_iff.mp ey).1
          have hy := ok.bd y (List.mem_of_getElem? ey)
          obtain ⟨dx4, _, _, _, _, _, g1, _⟩ := W4.ex
          refine ⟨t, y.row, rfl, .inl (.inl (s4 _ _ ht)), rfl, _, _, rfl, _, _, rfl, _, _, rfl, _, _, rfl, rfl, ?_⟩
          refine ⟨_, rfl, p, dx4, _, rfl, g1, wf_no (by decide +kernel), _, rfl, _, rfl, _, rfl, _, rfl, rfl, rfl, p, _, y, rfl, W4, ⟨hy.one, hy.oth, hy.ne, hy.b, ?_⟩, fun r H5 s5 nr W5 => ?_⟩
          · show (m.bd.take i).length < 40
            rw [List.length_take]
            omega
          · refine ⟨r, _, _, _, _, rfl, s4.trans s5, s4.free nr, ?_⟩
            rw [List.take_add_one, ey]
            exact W5
        · rintro σ H4 ⟨p, y8, y9, y10, y11, rfl, s4, np, W4⟩
          have eb : bs.length = m.bd.length := by rw [h6.len, List.length_map]
          have e0 : m.bd.take bs.length = m.bd := List.take_of_length_le (by omega)
          rw [e0] at W4
          exact ⟨_, rfl, q p H4 s4 np W4⟩
end
end Tw

set_option maxHeartbeats 4000000
namespace Tw
open PySem PySem.Spec PyProof.Rows L2
/-- two values that are the same through and through, at most n deep -/
theorem small8s {n : Nat} (h : n ≤ 8000000) : n < sizeLine := by
  show n < 16777216
  omega
def Sm : Nat → V → V → Hp → Prop
  | 0, _, _, _ => False
  | n + 1, x, y, H => (x = y ∧ flatV x = true) ∨ ∃ (a b : Addr) (xs ys : List V), x = .ref a ∧ y = .ref b ∧ ((H a = some (.lst xs) ∧ H b = some (.lst ys)) ∨ (H a = some (.tup xs) ∧ H b = some (.tup ys))) ∧ xs.length = ys.length ∧ xs.length ≤ 8000000 ∧
    ∀ (i : Nat) (x y : V), xs[i]? = some x → ys[i]? = some y → Sm n x y H
theorem Sm.same {H H' : Hp} (s : Same H H') : ∀ {n : Nat} {x y : V}, Sm n x y H → Sm n x y H'
  | 0, _, _, h => h.elim
  | n + 1, x, y, h => by
    rcases h with h | ⟨a, b, xs, ys, ex, ey, h, hl, hl2, hi⟩
    · exact .inl h
    · refine .inr ⟨a, b, xs, ys, ex, ey, ?_, hl, hl2, fun i x y h1 h2 => Sm.same s (hi i x y h1 h2)⟩
      rcases h with ⟨h1, h2⟩ | ⟨h1, h2⟩
      · exact .inl ⟨s _ _ h1, s _ _ h2⟩
      · exact .inr ⟨s _ _ h1, s _ _ h2⟩
theorem Sm.succ {H : Hp} : ∀ {n : Nat} {x y : V}, Sm n x y H → Sm (n + 1) x y H
  | 0, _, _, h => h.elim
  | n + 1, x, y, h => by
    rcases h with h | ⟨a, b, xs, ys, ex, ey, h, hl, hl2, hi⟩
    · exact .inl h
    · exact .inr ⟨a, b, xs, ys, ex, ey, h, hl, hl2, fun i x y h1 h2 => Sm.succ (hi i x y h1 h2)⟩
theorem Sm.flat {H : Hp} {n : Nat} {x : V} (h : flatV x = true) : Sm (n + 1) x x H := .inl ⟨rfl, h⟩
theorem sm_eq {H : Hp} {n : Nat} {x y : V} (e : x = y) (h : flatV x = true) : Sm (n + 1) x y H := by
  subst e
  exact Sm.flat h
theorem sm_lst {H : Hp} {a b : Addr} {xs ys : List V} {n : Nat} (h1 : H a = some (.lst xs)) (h2 : H b = some (.lst ys)) (hl : xs.length = ys.length) (h0 : xs.length ≤ 1000) (h : ∀ (i : Nat) (x y : V), xs[i]? = some x → ys[i]? = some y → Sm n x y H) : Sm (n + 1) (.ref a) (.ref b) H :=
  .inr ⟨a, b, xs, ys, rfl, rfl, .inl ⟨h1, h2⟩, hl, Nat.le_trans h0 (by decide), h⟩
theorem sm_tup {H : Hp} {a b : Addr} {xs ys : List V} {n : Nat} (h1 : H a = some (.tup xs)) (h2 : H b = some (.tup ys)) (hl : xs.length = ys.length) (h0 : xs.length ≤ 1000) (h : ∀ (i : Nat) (x y : V), xs[i]? = some x → ys[i]? = some y → Sm n x y H) : Sm (n + 1) (.ref a) (.ref b) H :=
  .inr ⟨a, b, xs, ys, rfl, rfl, .inr ⟨h1, h2⟩, hl, Nat.le_trans h0 (by decide), h⟩
theorem sm_flats {H : Hp} {xs : List V} {n : Nat} (hf : xs.all flatV = true) : ∀ (i : Nat) (x y : V), xs[i]? = some x → xs[i]? = some y → Sm (n + 1) x y H := fun i x y h1 h2 => by
  rw [h1] at h2
  cases h2
  exact Sm.flat (List.all_eq_true.mp hf x (List.mem_of_getElem? h1))
theorem sm_strs {H : Hp} {a b : Addr} {l : List Str} {n : Nat} (h1 : H a = some (.lst (l.map V.str))) (h2 : H b = some (.lst (l.map V.str))) (h0 : l.length ≤ 1000) : Sm (n + 2) (.ref a) (.ref b) H :=
  sm_lst h1 h2 rfl (by rw [List.length_map]; exact h0) (sm_flats (flat_strs l))
theorem sm_rows {H : Hp} {a b : Addr} {xs ys : List V} {rs : List (List V)} {n : Nat} (h1 : H a = some (.lst xs)) (h2 : H b = some (.lst ys)) (r1 : Rows H xs rs) (r2 : Rows H ys rs) (h0 : rs.length ≤ 1000) (hf : ∀ r ∈ rs, r.all flatV = true ∧ r.length ≤ 1000) : Sm (n + 3) (.ref a) (.ref b) H := by
  refine sm_lst h1 h2 (by rw [r1.len, r2.len]) (by rw [r1.len]; exact h0) fun i x y hx hy => ?_
  obtain ⟨t, r, rfl, hr, ht⟩ := r1.at hx
  obtain ⟨u, r', rfl, hr', hu⟩ := r2.at hy
  rw [hr] at hr'
  cases hr'
  have hr2 := hf r (List.mem_of_getElem? hr)
  exact sm_tup ht hu rfl hr2.2 (sm_flats hr2.1)
/-- rows, however many -/
theorem sm_rows8 {H : Hp} {a b : Addr} {xs ys : List V} {rs : List (List V)} {n : Nat} (h1 : H a = some (.lst xs)) (h2 : H b = some (.lst ys)) (r1 : Rows H xs rs) (r2 : Rows H ys rs) (h0 : rs.length ≤ 8000000) (hf : ∀ r ∈ rs, r.all flatV = true ∧ r.length ≤ 1000) : Sm (n + 3) (.ref a) (.ref b) H := by
  refine .inr ⟨a, b, xs, ys, rfl, rfl, .inl ⟨h1, h2⟩, by rw [r1.len, r2.len], by rw [r1.len]; exact h0, fun i x y hx hy => ?_⟩
  obtain ⟨t, r, rfl, hr, ht⟩ := r1.at hx
  obtain ⟨u, r', rfl, hr', hu⟩ := r2.at hy
  rw [hr] at hr'
  cases hr'
  have hr2 := hf r (List.mem_of_getElem? hr)
  exact sm_tup ht hu rfl hr2.2 (sm_flats hr2.1)
theorem rIx_of {K : PySem.W.Frag} {H : Hp} {a : Addr} {xs : List V} {i : Int} {v : V} {Q : VK} (h : SqL K H a xs ∨ SqT K H a xs) (e : atI xs i = some v) (q : Q v H) : rIx K (.ref a) (.int i) H Q := by
  rcases h with h | h
  · exact .inl ⟨a, xs, i, v, rfl, rfl, h, e, q⟩
  · exact .inr (.inl ⟨a, xs, i, v, rfl, rfl, h, e, q⟩)
theorem sq_same {K : PySem.W.Frag} {H H' : Hp} {a : Addr} {xs : List V} (s : Same H H') (h : SqL K H a xs ∨ SqT K H a xs) : SqL K H' a xs ∨ SqT K H' a xs := by
  rcases h with h | h
  · exact .inl (s.seq h)
  · refine .inr ?_
    rcases h with (h | ⟨o, h⟩) | h
    · exact .inl (.inl (s _ _ h))
    · exact .inl (.inr ⟨o, s _ _ h⟩)
    · exact .inr h
theorem lenV_of {K : PySem.W.Frag} {H : Hp} {a : Addr} {xs : List V} (h : SqL K H a xs ∨ SqT K H a xs) : LenV K (.ref a) H xs.length := by
  rcases h with h | h
  · exact .inl ⟨xs, h, rfl⟩
  · exact .inr ⟨xs, h, rfl⟩
section
variable {P : Program} {w : World} {K : PySem.W.Frag} {mg : Str → Option Value} {base : Heap}
def sp_same (n : Nat) : Sp := fun vs H Q _ => ∃ x y : V, vs = [x, y] ∧ Sm n x y H ∧ ∀ H', Same H H' → Q (.bl true) H'
theorem cal_same (T : Tp K mg) : ∀ n : Nat, Cal P w K mg base n "_law_same" (sp_same n)
  | 0 => by
    obtain ⟨fd, F⟩ := f__law_same T
    exact ⟨_, fd, ["_law_found", "_law_due"], [], ⟨fun vs H Q E h => by
      obtain ⟨x, y, rfl, _⟩ := h
      rfl, fun A outer s H args us vs Q E _ _ _ _ h => by
      obtain ⟨x, y, rfl, h, _⟩ := h
      exact h.elim⟩, g__law_same T, F.kp, b__law_same F, .nil⟩
  | n + 1 => by
    have ih := cal_same T n
    obtain ⟨fd, F⟩ := f__law_same T
    refine cal_of F (g__law_same T) (b__law_same F) sc__law_same (fun vs H Q E h => ?_) (fun cdv A outer s H vs Q E hr h => ?_)
    · obtain ⟨x, y, rfl, _⟩ := h
      rfl
    · obtain ⟨x, y, rfl, h, q⟩ := h
      refine ⟨_, (pss_cons (ps_if (pt_val (pe_callB call_isK (by rfl) (z_isinstance T) bb_isinstance (pa_cons (pv 1) (pa_cons (pe_bltn (v := .ty "bool") (by rfl) (z_bool T) bb_bool rfl) pa_nil)))) (pss_one (ps_ret (pe_and (pe_callB call_isK (by rfl) (z_isinstance T) bb_isinstance (pa_cons (pv 0) (pa_cons (pe_bltn (v := .ty "bool") (by rfl) (z_bool T) bb_bool rfl) pa_nil))) (pe_one (pe_cmpR op_eq (pv 0) (pv 1) (nomark _)))))) pss_nil)
      (pss_cons (ps_if (pt_cmpR op_isN (pv 1) pe_non (nomark _)) (pss_one (ps_ret (pe_cmpR op_isN (pv 0) pe_non (nomark _)))) pss_nil)
      (pss_cons (ps_if (pt_val (pe_callB call_isK (by rfl) (z_isinstance T) bb_isinstance (pa_cons (pv 1) (pa_cons (pe_bltn (v := .ty "int") (by rfl) (z_int T) bb_int rfl) pa_nil)))) (pss_cons (ps_if (PW.pt (pw_or (pt_val (pe_callB call_isK (by rfl) (z_isinstance T) bb_isinstance (pa_cons (pv 0) (pa_cons (pe_bltn (v := .ty "bool") (by rfl) (z_bool T) bb_bool rfl) pa_nil)))) (pw_or1 (pt_not (pt_val (pe_callB call_isK (by rfl) (z_isinstance T) bb_isinstance (pa_cons (pv 0) (pa_cons (pe_bltn (v := .ty "int") (by rfl) (z_int T) bb_int rfl) pa_nil)))))))) (pss_one (ps_ret pe_bl)) pss_nil)
        (pss_one (ps_ret (pe_cmpR op_eq (pv 0) (pv 1) (nomark _))))) pss_nil)
      (pss_cons (ps_if (pt_val (pe_callB call_isK (by rfl) (z_isinstance T) bb_isinstance (pa_cons (pv 1) (pa_cons (pe_bltn (v := .ty "str") (by rfl) (z_str T) bb_str rfl) pa_nil)))) (pss_one (ps_ret (pe_and (pe_callB call_isK (by rfl) (z_isinstance T) bb_isinstance (pa_cons (pv 0) (pa_cons (pe_bltn (v := .ty "str") (by rfl) (z_str T) bb_str rfl) pa_nil))) (pe_one (pe_cmpR op_eq (pv 0) (pv 1) (nomark _)))))) pss_nil)
      (pss_cons (ps_if (pt_val (pe_callB call_isK (by rfl) (z_isinstance T) bb_isinstance (pa_cons (pv 1) (pa_cons (pe_bltn (v := .ty "dict") (by rfl) (z_dict T) bb_dict rfl) pa_nil)))) pss_never pss_nil)
      (pss_cons (ps_if (PW.pt (pw_and (pt_val (pe_callB call_isK (by rfl) (z_isinstance T) bb_isinstance (pa_cons (pv 1) (pa_cons (pe_bltn (v := .ty "tuple") (by rfl) (z_tuple T) bb_tuple rfl) pa_nil)))) (pw_and1 (pt_not (pt_val (pe_callB call_isK (by rfl) (z_isinstance T) bb_isinstance (pa_cons (pv 0) (pa_cons (pe_bltn (v := .ty "tuple") (by rfl) (z_tuple T) bb_tuple rfl) pa_nil)))))))) (pss_one (ps_ret pe_bl)) pss_nil)
      (pss_cons (ps_if (PW.pt (pw_and (pt_val (pe_callB call_isK (by rfl) (z_isinstance T) bb_isinstance (pa_cons (pv 1) (pa_cons (pe_bltn (v := .ty "list") (by rfl) (z_list T) bb_list rfl) pa_nil)))) (pw_and1 (pt_not (pt_val (pe_callB call_isK (by rfl) (z_isinstance T) bb_isinstance (pa_cons (pv 0) (pa_cons (pe_bltn (v := .ty "list") (by rfl) (z_list T) bb_list rfl) pa_nil)))))))) (pss_one (ps_ret pe_bl)) pss_nil)
      (pss_cons (ps_if (pt_cmpR op_ne (pe_callB call_len (by rfl) (z_len T) bb_len (pa_cons (pv 0) pa_nil)) (pe_callB call_len (by rfl) (z_len T) bb_len (pa_cons (pv 1) pa_nil)) (nomark _)) (pss_one (ps_ret pe_bl)) pss_nil)
      (pss_one (ps_ret (pe_callB (cr_all rfl) (by rfl) (z_all T) bb_all (pa_cons (pe_lc (own := [("_law_k", 3)]) (g := gName 3) (tt := tYes) rfl sc__law_same.nd (pi_range1 rfl (z_range T) (pa_cons (pe_callB call_len (by rfl) (z_len T) bb_len (pa_cons (pv 1) pa_nil)) pa_nil)) (blkOk_by (N := N__law_same) (sc := defScope s__law_same) (by decide +kernel)) (fun _ _ _ _ _ => (pg_name (i := 3) sc__law_same.nd rfl (.inl rfl))) (fun _ _ _ _ _ => pts_nil) (fun _ _ _ _ _ => (C8.pe_c ih hr (Nat.le_refl _) rfl (pa_cons (pe_ix (ix_seqK (K := K) rfl) (pv 0) (pv 3) (fun _ _ => rfl)) (pa_cons (pe_ix (ix_seqK (K := K) rfl) (pv 1) (pv 3) (fun _ _ => rfl)) pa_nil))))) pa_nil)))))))))))), ?_⟩
      rcases h with ⟨e, fl⟩ | ⟨a, b, xs, ys, ex, ey, hk, hl, hl2, hi⟩
      · subst e
        cases x with
        | bl v =>
          refine ⟨_, rfl, _, "bool", "bool", rfl, .base (.bl _), by decide, by decide, _, rfl, iteT ⟨_, rfl, _, "bool", "bool", rfl, .base (.bl _), by decide, by decide, _, rfl, iteT ⟨_, rfl, _, rfl, rfl, ?_⟩⟩⟩
          rw [decide_eq_true rfl]
          exact q H (Same.refl H)
        | non =>
          refine ⟨_, rfl, _, "bool", "NoneType", rfl, .base .non, by decide, by decide, _, rfl, iteF ⟨_, rfl, rfl, _, rfl, ?_⟩⟩
          rw [decide_eq_true rfl]
          refine iteT ⟨_, rfl, rfl, ?_⟩
          exact q H (Same.refl H)
        | int i =>
          refine ⟨_, rfl, _, "bool", "int", rfl, .base (.int _), by decide, by decide, _, rfl, iteF ⟨_, rfl, rfl, _, rfl, ?_⟩⟩
          rw [decide_eq_false (show ¬ V.int i = V.non by intro z; cases z)]
          refine iteF ⟨_, rfl, _, "int", "int", rfl, .base (.int _), by decide, by decide, _, rfl, iteT ⟨_, rfl, _, "bool", "int", rfl, .base (.int _), by decide, by decide, _, rfl, iteF ⟨_, rfl, _, "int", "int", rfl, .base (.int _), by decide, by decide, _, rfl, iteF ⟨_, rfl, _, rfl, rfl, ?_⟩⟩⟩⟩
          rw [decide_eq_true rfl]
          exact q H (Same.refl H)
        | str z =>
          refine ⟨_, rfl, _, "bool", "str", rfl, .base (.str _), by decide, by decide, _, rfl, iteF ⟨_, rfl, rfl, _, rfl, ?_⟩⟩
          rw [decide_eq_false (show ¬ V.str z = V.non by intro z; cases z)]
          refine iteF ⟨_, rfl, _, "int", "str", rfl, .base (.str _), by decide, by decide, _, rfl, iteF ⟨_, rfl, _, "str", "str", rfl, .base (.str _), by decide, by decide, _, rfl, iteT ⟨_, rfl, _, "str", "str", rfl, .base (.str _), by decide, by decide, _, rfl, iteT ⟨_, rfl, _, rfl, rfl, ?_⟩⟩⟩⟩
          rw [decide_eq_true rfl]
          exact q H (Same.refl H)
        | byt _ => cases fl
        | flt _ => cases fl
        | ref _ => cases fl
        | ty _ => cases fl
      · subst ex ey
        have sx : SqL K H a xs ∨ SqT K H a xs := by
          rcases hk with ⟨h1, h2⟩ | ⟨h1, h2⟩
          · exact .inl (.inl (.inl h1))
          · exact .inr (.inl (.inl h1))
        have sy : SqL K H b ys ∨ SqT K H b ys := by
          rcases hk with ⟨h1, h2⟩ | ⟨h1, h2⟩
          · exact .inl (.inl (.inl h2))
          · exact .inr (.inl (.inl h2))
        have nn : ¬ V.ref b = V.non := by intro z; cases z
        rcases hk with ⟨h1, h2⟩ | ⟨h1, h2⟩
        · refine ⟨_, rfl, _, "bool", "list", rfl, .base (.lst h2), by decide, by decide, _, rfl, iteF ⟨_, rfl, rfl, _, rfl, ?_⟩⟩
          rw [decide_eq_false nn]
          refine iteF ⟨_, rfl, _, "int", "list", rfl, .base (.lst h2), by decide, by decide, _, rfl, iteF ⟨_, rfl, _, "str", "list", rfl, .base (.lst h2), by decide, by decide, _, rfl, iteF ⟨_, rfl, _, "dict", "list", rfl, .base (.lst h2), by decide, by decide, _, rfl, iteF
            ⟨_, rfl, _, "tuple", "list", rfl, .base (.lst h2), by decide, by decide, _, rfl, iteF (iteF ⟨_, rfl, _, "list", "list", rfl, .base (.lst h2), by decide, by decide, _, rfl, iteT ⟨_, rfl, _, "list", "list", rfl, .base (.lst h1), by decide, by decide, _, rfl, iteF ?_⟩⟩)⟩⟩⟩⟩
          refine ⟨_, rfl, _, _, rfl, lenV_of sx, _, rfl, _, _, rfl, lenV_of sy, rfl, _, rfl, ?_⟩
          refine iteNS (by rw [hl]) ?_
          refine ⟨_, rfl, _, _, rfl, lenV_of sy, _, rfl, by omega, by omega, fun D nD => ?_⟩
          refine lc_range (lo := 0) (n := ys.length) (fun i H1 => Same H H1 ∧ H1 D = some (.lst ((List.replicate i true).map V.bl))) ⟨same_upd nD, upd_same⟩ ?_ ?_
          · rintro i H1 hi1 ⟨s1, d1⟩
            have hx : i < xs.length := by omega
            refine ⟨rfl, yes_i (iteT ⟨_, rfl, _, rfl, rIx_of (v := xs[i]) (sq_same s1 sx) (at_of (j := i) (by omega) (List.getElem?_eq_getElem hx)) ⟨_, rfl, _, rfl, rIx_of (v := ys[i]) (sq_same s1 sy) (at_of (j := i) (by omega) (List.getElem?_eq_getElem hi1)) ⟨_, _, rfl, (hi i _ _ (List.getElem?_eq_getElem hx) (List.getElem?_eq_getElem hi1)).same s1, fun H2 s2 => ⟨_, s2 _ _ d1, ?_, ?_, ?_⟩⟩⟩⟩)⟩
            · rw [List.length_map, List.length_replicate]
              exact small8s (by omega)
            · exact same_put (s1.trans s2) nD
            · rw [upd_same, List.replicate_succ', List.map_append]
              rfl
          · rintro H1 ⟨s1, d1⟩
            refine ⟨D, _, rfl, .inl (.inl d1), ?_⟩
            rw [show (List.replicate ys.length true).all id = true by simp]
            exact q H1 s1
        · refine ⟨_, rfl, _, "bool", "tuple", rfl, .base (.tup h2), by decide, by decide, _, rfl, iteF ⟨_, rfl, rfl, _, rfl, ?_⟩⟩
          rw [decide_eq_false nn]
          refine iteF ⟨_, rfl, _, "int", "tuple", rfl, .base (.tup h2), by decide, by decide, _, rfl, iteF ⟨_, rfl, _, "str", "tuple", rfl, .base (.tup h2), by decide, by decide, _, rfl, iteF ⟨_, rfl, _, "dict", "tuple", rfl, .base (.tup h2), by decide, by decide, _, rfl, iteF
            ⟨_, rfl, _, "tuple", "tuple", rfl, .base (.tup h2), by decide, by decide, _, rfl, iteT ⟨_, rfl, _, "tuple", "tuple", rfl, .base (.tup h1), by decide, by decide, _, rfl, iteF ⟨_, rfl, _, "list", "tuple", rfl, .base (.tup h2), by decide, by decide, _, rfl, iteF (iteF ?_)⟩⟩⟩⟩⟩⟩
          refine ⟨_, rfl, _, _, rfl, lenV_of sx, _, rfl, _, _, rfl, lenV_of sy, rfl, _, rfl, ?_⟩
          refine iteNS (by rw [hl]) ?_
          refine ⟨_, rfl, _, _, rfl, lenV_of sy, _, rfl, by omega, by omega, fun D nD => ?_⟩
          refine lc_range (lo := 0) (n := ys.length) (fun i H1 => Same H H1 ∧ H1 D = some (.lst ((List.replicate i true).map V.bl))) ⟨same_upd nD, upd_same⟩ ?_ ?_
          · rintro i H1 hi1 ⟨s1, d1⟩
            have hx : i < xs.length := by omega
            refine ⟨rfl, yes_i (iteT ⟨_, rfl, _, rfl, rIx_of (v := xs[i]) (sq_same s1 sx) (at_of (j := i) (by omega) (List.getElem?_eq_getElem hx)) ⟨_, rfl, _, rfl, rIx_of (v := ys[i]) (sq_same s1 sy) (at_of (j := i) (by omega) (List.getElem?_eq_getElem hi1)) ⟨_, _, rfl, (hi i _ _ (List.getElem?_eq_getElem hx) (List.getElem?_eq_getElem hi1)).same s1, fun H2 s2 => ⟨_, s2 _ _ d1, ?_, ?_, ?_⟩⟩⟩⟩)⟩
            · rw [List.length_map, List.length_replicate]
              exact small8s (by omega)
            · exact same_put (s1.trans s2) nD
            · rw [upd_same, List.replicate_succ', List.map_append]
              rfl
          · rintro H1 ⟨s1, d1⟩
            refine ⟨D, _, rfl, .inl (.inl d1), ?_⟩
            rw [show (List.replicate ys.length true).all id = true by simp]
            exact q H1 s1
/-- as it is asked by the laws: data at most six deep -/
theorem cal__law_same (T : Tp K mg) : Cal P w K mg base 7 "_law_same" (sp_same 7) := cal_same T 7
end
end Tw

set_option maxHeartbeats 4000000
namespace Tw
open PySem PySem.Spec PyProof.Rows L2
section
variable {prog : Program} {w : World} {A : Around} {E : Value → Shared → Prop} {s : Shared} {K : PySem.W.Frag} {x C L f : Addr} {h₀ : Heap} {m : Str → Option Value} {ox : Obj} {od : Option Obj}
open PySem.W PySem.Calls Builtin in
/-- what truthy's own call of len finds: the answer of __len__, in its bounds -/
theorem len_ownBody {Q : Value → Shared → Prop} (X : K.In s.heap) (I : InstAt s.heap x ox C od) (hs : findIn K (.ref C) "__len__" = some (some (.ref f))) (hf : isFn K (.ref f) = true)
    (h : wpAny (model prog w) A (call (.ref f) [.ref x]) (PySem.W.LenBack Q) E s) : wpAny (model prog w) A (Builtin.«len» ⟨[.ref x], []⟩) (fun fin s' => ∃ r, fin = .done (.ret r) ∧ Q r s') E s := by
  have ask : ∀ {R : Option Value → Shared → Prop}, (∀ n u s', (0 ≤ n ∧ n < 2 ^ 63) → Q (.int n s'.toks) { s' with toks := s'.toks + 1 } → R (some (.int n u)) s') → wpAny (model prog w) A (callSpecial? (.ref x) (Str.ofString "__len__")) R E s := fun {R} k =>
    special_fn X I hs (beq_iff_eq.mp hf) (wpAny_mono h (fun r s' back => by
      cases r with
      | int n u => exact k n u s' back.1 back.2
      | _ => exact False.elim back) fun _ _ y => y)
  unfold Builtin.«len»
  repeat (first | with_reducible refine ask fun n u s' bnd back => ?_ | wp_step)
  rw [if_neg (Int.not_le.mpr bnd.2)]
  repeat wp_step
  exact ⟨_, rfl, back⟩
open PySem.W PySem.Calls Builtin in
theorem truthy_own {Q : Bool → Shared → Prop} (X : K.In s.heap) (I : InstAt s.heap x ox C od) (hb : findIn K (.ref C) "__bool__" = some none) (hs : findIn K (.ref C) "__len__" = some (some (.ref f))) (hf : isFn K (.ref f) = true)
    (h : wpAny (model prog w) A.in1 (call (.ref f) [.ref x]) (PySem.W.LenBack fun v s' => ∃ n t, v = .int n t ∧ Q (n != 0) s') E s) : wpAny (model prog w) A (truthy (.ref x)) Q E s := by
  have counted : ∀ {R : Value → Shared → Prop}, (∀ n t s', Q (n != 0) s' → R (.int n t) s') → wpAny (model prog w) A (runValue (.builtin "len" ⟨[.ref x], []⟩)) R E s := fun {R} k =>
    wpAny_runValue (codeAny_builtin entry_len (by
      rw [Around.under_plainId plain_len]
      refine wpAny_mono (len_ownBody X I hs hf h) ?_ fun _ _ z => z
      rintro _ s' ⟨_, rfl, n, t, rfl, q⟩
      exact k n t s' q))
  have noBool := looks_findIn (M := model prog w) X hb
  have hasLen := looks_findIn (M := model prog w) X hs
  unfold truthy callSpecial? specialOf
  repeat (first | with_reducible refine I.type.here ?_ | with_reducible refine noBool.here ?_ | with_reducible refine hasLen.here ?_ | with_reducible refine counted fun n t s' q => ?_ | assumption | wp_step)
theorem bool_new (l : Addr) : MeetsIn prog w (Builtin.«bool.__new__» ⟨[.type "bool", .ref l], []⟩) (fun A R s => wpAny (model prog w) A.in1 (truthy (.ref l)) (fun b s' => R (.ok (.ret (.bool b))) s') (fun e s' => R (.error e) s') s) :=
  .of_wp fun A R s hs => by
    have f1 := PySem.F.conv_sub_bool
    obtain ⟨hp, g, d, tk, os⟩ := s
    have ht : ∀ {Q : Bool → Shared → Prop}, (∀ b s', R (.ok (.ret (.bool b))) s' → Q b s') → wpAny (model prog w) A.in1 (truthy (.ref l)) Q (fun e s' => R (.error e) s') (Shared.mk hp g d tk os) := fun h => wpAny_mono hs (fun b s' z => h b s' z) fun _ _ z => z
    repeat (any_goals (first | assumption | (with_reducible refine ht fun b s' z => ?_) | wp_step))
    all_goals exact ⟨_, rfl, z⟩
end
section
variable {X : Cx} {k j : Nat} {C : Addr} {sp : Sp}
/-- bool(o) by an own __len__ -/
def rBoolO (C : Addr) (sp : Sp) : List V → Hp → VK → Prop := fun xs H Q => ∃ a dx fs, xs = [.ref a] ∧ H a = some (.ins C dx fs) ∧ sp [.ref a] H (fun v H' => ∃ i : Int, v = .int i ∧ 0 ≤ i ∧ i < 2 ^ 63 ∧ Q (.bl (i != 0)) H') E0
theorem call_boolO (c : Met X.prog X.w X.K X.mg X.base k C "__len__" sp) (nb : NoAttr X.K C "__bool__") (hr : Room j X.A) (hk : k + 3 ≤ j) : CallR X (.type "bool") (rBoolO C sp) := by
  rintro pins s σ H _ us Q I r ⟨a, dx, fs, rfl, here, q⟩
  obtain rfl := Vals.ref1 r
  obtain ⟨f, hs, hf, F⟩ := own0 c
  obtain ⟨_, J0, _⟩ := ins_get I.hok here
  obtain ⟨_, J, _⟩ := J0.look
  have room : Room k X.A.in1.in1.in1 := (hr.mono hk).in1.in1.in1
  refine callType_newIn PySem.F.called_bool PySem.F.newNe_bool (PySem.F.typeCall_bool_1 _) (PySem.F.newCall_bool_1 _) (fun obj => PySem.F.args_object_init_2 obj _) PySem.F.entry_bool_new (bool_new a) ?_
  refine truthy_own I.kIn J nb hs hf (thn (wpAny_call (SlX.run_at F room I.env0.in1.in1.in1 pass0 I r q)) ?_)
  rintro _ s1 ⟨_, H1, I1, rv, i, rfl, low, high, q1⟩
  obtain ⟨_, rfl⟩ := rv
  exact ⟨⟨low, high⟩, i, _, rfl, rfl, .bl (i != 0), H1, I1.tok _, rfl, q1⟩
end
end Tw

set_option maxHeartbeats 4000000
namespace Tw
open PySem PySem.Spec PyProof.Rows L2
theorem wd_flat (l : List Wd) : ∀ r ∈ l.map Wd.row, r.all flatV = true ∧ r.length ≤ 1000 := fun r h => by
  obtain ⟨x, _, rfl⟩ := List.mem_map.mp h
  refine ⟨?_, by show 5 ≤ 1000; decide⟩
  unfold Wd.row
  cases x.la <;> rfl
theorem bd_flat (l : List Bd) : ∀ r ∈ l.map Bd.row, r.all flatV = true ∧ r.length ≤ 1000 := fun r h => by
  obtain ⟨x, _, rfl⟩ := List.mem_map.mp h
  refine ⟨?_, by show 4 ≤ 1000; decide⟩
  unfold Bd.row
  cases x.bot <;> cases x.top <;> rfl
theorem sm_three {H : Hp} {a b : Addr} {x1 x2 x3 y1 y2 y3 : V} {n : Nat} (h1 : H a = some (.lst [x1, x2, x3])) (h2 : H b = some (.lst [y1, y2, y3])) (e1 : Sm n x1 y1 H) (e2 : Sm n x2 y2 H) (e3 : Sm n x3 y3 H) : Sm (n + 1) (.ref a) (.ref b) H := by
  refine sm_lst h1 h2 rfl (by show 3 ≤ 1000; decide) fun i x y hx hy => ?_
  match i, hx, hy with
  | 0, hx, hy =>
    cases hx
    cases hy
    exact e1
  | 1, hx, hy =>
    cases hx
    cases hy
    exact e2
  | 2, hx, hy =>
    cases hx
    cases hy
    exact e3
theorem empty_web : Str.empty ++ ("Web(" : Str) = ("Web(" : Str) := by decide +kernel
section
variable {P : Program} {w : World} {K : PySem.W.Frag} {mg : Str → Option Value} {base : Heap}
def sp_stands (K : PySem.W.Frag) : Sp := fun vs H Q _ => ∃ (p d : Addr) (m : Md), vs = [.ref p, .ref d] ∧ WebAt (CW K) H p m ∧ MdAt H d m ∧ ∀ H', Same H H' → Q (.bl true) H'
theorem cal__law_stands (T : Tp K mg) : Cal P w K mg base 9 "_law_stands" (sp_stands K) := by
  obtain ⟨fd, F⟩ := f__law_stands T
  refine cal_of F (g__law_stands T) (b__law_stands F) sc__law_stands (fun vs H Q E h => ?_) (fun cdv A outer s H vs Q E hr h => ?_)
  · obtain ⟨p, d, m, rfl, _⟩ := h
    rfl
  · obtain ⟨p, d, m, rfl, W, M, q⟩ := h
    have hu := hu_of hr
    have hlen := W.len
    have hlast := W.last
    have hpts := pts_len W
    refine ⟨_, (pss_cons (ps_set (i := 2) sc__law_stands.nd rfl (.inl rfl) (C8.pe_c (cal__law_points T) hr (by decide) rfl (pa_cons (pv 1) pa_nil)))
      (pss_cons (ps_set (i := 3) sc__law_stands.nd rfl (.inl rfl) (pe_lst (pa_cons (pe_fld (pv 0) rfl) (pa_cons (C8.pe_mt0 (met_Web_moments T) hr (by decide) (pv 0)) (pa_cons (C8.pe_mt0 (met_Web_spans T) hr (by decide) (pv 0)) pa_nil)))))
      (pss_cons (ps_if (pt_not (pt_val (C8.pe_c (cal__law_same T) hr (by decide) rfl (pa_cons (pv 3) (pa_cons (pe_lst (pa_cons (pe_dget hu (pv 1) pe_str (fun _ _ => rfl)) (pa_cons (pe_dget hu (pv 1) pe_str (fun _ _ => rfl)) (pa_cons (pe_dget hu (pv 1) pe_str (fun _ _ => rfl)) pa_nil)))) pa_nil))))) (pss_one (ps_ret pe_bl)) pss_nil)
      (pss_cons (ps_set (i := 3) sc__law_stands.nd rfl (.inl rfl) (pe_lst (pa_cons (C8.pe_mt0 (met_Web_ties T) hr (by decide) (pv 0)) (pa_cons (C8.pe_mt0 (met_Web_points T) hr (by decide) (pv 0)) (pa_cons (pe_callB (call_lenO (met_Web_UlenU T) hr (by decide)) (by rfl) (z_len T) bb_len (pa_cons (pv 0) pa_nil)) pa_nil)))))
      (pss_cons (ps_if (pt_not (pt_val (C8.pe_c (cal__law_same T) hr (by decide) rfl (pa_cons (pv 3) (pa_cons (pe_lst (pa_cons (pe_dget hu (pv 1) pe_str (fun _ _ => rfl)) (pa_cons (pv 2) (pa_cons (pe_callB call_len_seq (by rfl) (z_len T) bb_len (pa_cons (pv 2) pa_nil)) pa_nil)))) pa_nil))))) (pss_one (ps_ret pe_bl)) pss_nil)
      (pss_cons (ps_set (i := 4) sc__law_stands.nd rfl (.inl rfl) (pe_op op_add_str (pe_op op_add_str pe_str (pe_callTy call_str_int (by rfl) (z_str T) bb_str (pa_cons (pe_callB call_len_seq (by rfl) (z_len T) bb_len (pa_cons (pv 2) pa_nil)) pa_nil))) pe_str))
      (pss_cons (ps_set (i := 4) sc__law_stands.nd rfl (.inl rfl) (pe_op op_add_str (pe_op op_add_str (pe_op op_add_str (pe_op op_add_str (pv 4) (pe_callTy call_str_int (by rfl) (z_str T) bb_str (pa_cons (pe_callB call_len_seq (by rfl) (z_len T) bb_len (pa_cons (pe_dget hu (pv 1) pe_str (fun _ _ => rfl)) pa_nil)) pa_nil))) pe_str) (pe_callTy call_str_int (by rfl) (z_str T) bb_str (pa_cons (pe_dget hu (pv 1) pe_str (fun _ _ => rfl)) pa_nil))) pe_str))
      (pss_one (ps_ret (C8.pe_c (cal__law_same T) hr (by decide) rfl (pa_cons (pe_callB (call_reprO (met_Web_UreprU T) hr (by decide)) (by rfl) (z_repr T) bb_repr (pa_cons (pv 0) pa_nil)) (pa_cons (pv 4) pa_nil)))))))))))), ?_⟩
    refine ⟨_, rfl, d, m, rfl, M, by omega, by omega, fun pl H1 s1 npl hpl => ?_⟩
    have W1 := W.same s1
    obtain ⟨dx, a, b, c, ws, bs, h1, h2, h3, h4, h5, h6⟩ := W1.ex
    -- found = [web.by, web.moments(), web.spans()]
    refine ⟨_, rfl, p, CW K, dx, _, _, rfl, h1, cl_Web T, na_by T, wf_by, _, rfl, p, dx, _, rfl, h1, wf_no (by decide +kernel), p, m, rfl, W1, fun k1 n1 => ?_⟩
    have t1 := same_upd (o := .lst (m.own.map V.str)) n1
    have W2 := W1.same t1
    refine ⟨_, rfl, p, dx, _, rfl, t1 _ _ h1, wf_no (by decide +kernel), p, m, rfl, W2, fun ws2 k2 r2 n2 => ⟨by show 3 ≤ sizeLine; decide, fun l n3 => ?_⟩⟩
    have t2 := same_upd (o := .lst ws2) n2
    have t3 := same_upd (o := .lst [.int m.last, .ref k1, .ref k2]) n3
    have e1 := t3 _ _ (t2 _ _ (upd_same (H := H1) (a := k1) (o := .lst (m.own.map V.str))))
    have e2 := t3 _ _ (upd_same (H := upd H1 k1 (.lst (m.own.map V.str))) (a := k2) (o := .lst ws2))
    have sA := ((s1.trans t1).trans t2).trans t3
    obtain ⟨o, u, v, us, vs, g1, g2, g3, g4, g5, g6, g7⟩ := (M.same sA).ex
    -- [m['by'], m['own'], m['winds']]
    refine ⟨_, rfl, _, rfl, d, _, rfl, mk_by g1, _, rfl, d, _, rfl, mk_own g1, _, rfl, d, _, rfl, mk_wd g1, (by show 3 ≤ sizeLine; decide), fun l2 n4 => ?_⟩
    have t4 := same_upd (o := .lst [.int m.last, .ref o, .ref u]) n4
    refine ⟨_, _, rfl, sm_three (t4 _ _ upd_same) upd_same (Sm.flat rfl) (sm_strs (t4 _ _ e1) (t4 _ _ g2) (by omega)) (sm_rows (t4 _ _ e2) (t4 _ _ g3) (r2.keep (Kt.of (((t2).trans t3).trans t4))) (g4.keep (Kt.of t4)) (by rw [List.length_map]; omega) (wd_flat _)), fun H5 s5 => ⟨_, rfl, iteF ?_⟩⟩
    -- found = [web.ties(), web.points(), len(web)]
    have sB := (sA.trans t4).trans s5
    have W5 := W.same sB
    obtain ⟨dx5, a5, b5, c5, ws5, bs5, f1, f2, f3, f4, f5, f6⟩ := W5.ex
    refine ⟨_, rfl, p, dx5, _, rfl, f1, wf_no (by decide +kernel), p, m, rfl, W5, fun bs6 k5 r6 n5 => ?_⟩
    have t5 := same_upd (o := .lst bs6) n5
    have W6 := W5.same t5
    refine ⟨_, rfl, p, dx5, _, rfl, t5 _ _ f1, wf_no (by decide +kernel), p, m, rfl, W6, fun k6 H6 s6 n6 e6 => ?_⟩
    have W7 := W6.same s6
    refine ⟨_, rfl, p, dx5, _, rfl, s6 _ _ (t5 _ _ f1), p, m, rfl, W7, fun H7 s7 => ⟨_, rfl, by omega, by omega, by show 3 ≤ sizeLine; decide, fun l5 n7 => ?_⟩⟩
    have t7 := same_upd (o := .lst [.ref k5, .ref k6, .int (m.pts.length : Nat)]) n7
    have sC := (((t5.trans s6).trans s7).trans t7)
    have ek5 := t7 _ _ (s7 _ _ (s6 _ _ (upd_same (H := H5) (a := k5) (o := .lst bs6))))
    have ek6 := t7 _ _ (s7 _ _ e6)
    have sD := sB.trans sC
    obtain ⟨o8, u8, v8, us8, vs8, j1, j2, j3, j4, j5, j6, j7⟩ := (M.same sD).ex
    have epl := sC _ _ (s5 _ _ (t4 _ _ (t3 _ _ (t2 _ _ (t1 _ _ hpl)))))
    refine ⟨_, rfl, _, rfl, d, _, rfl, mk_bd j1, _, rfl, _, rfl, pl, _, rfl, .inl (.inl (.inl epl)), (by show 3 ≤ sizeLine; decide), fun l6 n8 => ?_⟩
    have t8 := same_upd (o := .lst [.ref v8, .ref pl, .int ((m.pts.map V.str).length : Nat)]) n8
    refine ⟨_, _, rfl, sm_three (t8 _ _ upd_same) upd_same (sm_rows (t8 _ _ ek5) (t8 _ _ j5) (r6.keep (Kt.of (sC.trans t8))) (j6.keep (Kt.of t8)) (by rw [List.length_map]; omega) (bd_flat _)) (sm_strs (t8 _ _ ek6) (t8 _ _ epl) (by omega)) (by rw [List.length_map]; exact Sm.flat rfl), fun H9 s9 => ⟨_, rfl, iteF ?_⟩⟩
    -- the text
    have sE := (sD.trans t8).trans s9
    have epl9 := s9 _ _ (t8 _ _ epl)
    have W9 := W.same sE
    obtain ⟨dx9, a9, b9, c9, ws9, bs9, w1, w2, w3, w4, w5, w6⟩ := W9.ex
    obtain ⟨o9, u9, v9, us9, vs9, i1, i2, i3, i4, i5, i6, i7⟩ := (M.same sE).ex
    have hvs : vs9.length = m.bd.length := by rw [i6.len, List.length_map]
    have l0 : ("Web(" : Str).length ≤ 4 := by decide +kernel
    have l1 := num_le (i := (m.pts.length : Nat)) (by omega) (by omega)
    have l2 : (" points, " : Str).length ≤ 9 := by decide +kernel
    have l3 := num_le (i := (m.bd.length : Nat)) (by omega) (by omega)
    have l4 : (" ties, by " : Str).length ≤ 10 := by decide +kernel
    have l5 := num_le (i := m.last) (by omega) (by omega)
    have l6 : (")" : Str).length ≤ 1 := by decide +kernel
    have fits : ∀ {x y : Str} {i j : Nat}, x.length ≤ i → y.length ≤ j → i + j ≤ 1000 → x.length + y.length ≤ sizeLine := fun h1 h2 h3 => Nat.le_of_lt (small1000 (by omega))
    have m1 := app_le l0 l1
    have m2 := app_le m1 l2
    have m3 := app_le m2 l3
    have m4 := app_le m3 l4
    have m5 := app_le m4 l5
    refine ⟨_, rfl, pl, _, rfl, .inl (.inl (.inl epl9)), _, rfl, ?_, ?_⟩
    · rw [List.length_map]
      exact num_log (by omega) (by omega)
    · rw [List.length_map]
      refine ⟨_, _, rfl, rfl, fits l0 l1 (by decide), _, _, rfl, rfl, fits m1 l2 (by decide), ?_⟩
      refine ⟨_, rfl, _, rfl, d, _, rfl, mk_bd i1, v9, _, rfl, .inl (.inl (.inl i5)), _, rfl, by rw [hvs]; exact num_log (by omega) (by omega), ?_⟩
      rw [hvs]
      refine ⟨_, _, rfl, rfl, fits m2 l3 (by decide), _, _, rfl, rfl, fits m3 l4 (by decide), _, rfl, d, _, rfl, mk_by i1, _, rfl, num_log (by omega) (by omega), _, _, rfl, rfl, fits m4 l5 (by decide), _, _, rfl, rfl, fits m5 l6 (by decide), ?_⟩
      refine ⟨_, rfl, p, dx9, _, rfl, w1, p, m, rfl, W9, fun H10 s10 => ⟨_, rfl, _, rfl, _, _, rfl, sm_eq ?_ rfl, fun H11 s11 => q H11 ((sE.trans s10).trans s11)⟩⟩
      unfold webText
      rw [empty_web]
      rfl
end
end Tw

set_option maxHeartbeats 4000000
namespace Tw
open PySem PySem.Spec PyProof.Rows L2
open LamX (ExtN Tabs)
theorem WebAt.ext {C : Addr} {H H' : Hp} {p : Addr} {m : Md} (W : WebAt C H p m) (e : ExtN H H') : WebAt C H' p m := W.keep (fun dx fs h => e _ _ h fun ps z => by cases z) (fun b xs h => e _ _ h fun ps z => by cases z)
theorem Flow.ext {H H' : Hp} {f c : Addr} (h : Flow H f c) (e : ExtN H H') : Flow H' f c := by
  obtain ⟨ns, i, r, st, e1, e2, e3⟩ := h.ex
  exact ⟨ns, i, r, st, e _ _ e1 (fun ps z => by cases z), e _ _ e2 (fun ps z => by cases z), e3⟩
theorem MdAt.ext {H H' : Hp} {d : Addr} {m : Md} (M : MdAt H d m) (e : ExtN H H') : MdAt H' d m := by
  obtain ⟨o, w, b, ws, bs, h1, h2, h3, h4, h5, h6, h7⟩ := M.ex
  have k : Kt H H' := fun b xs h => e _ _ h fun ps z => by cases z
  exact ⟨o, w, b, ws, bs, e _ _ h1 (fun ps z => by cases z), e _ _ h2 (fun ps z => by cases z), e _ _ h3 (fun ps z => by cases z), h4.keep k, e _ _ h5 (fun ps z => by cases z), h6.keep k, h7⟩
theorem tabs_same {T : List (Addr × Str)} {H H' : Hp} (h : Tabs T H) (s : Same H H') : Tabs T H' := fun p hp => (h p hp).ext s
theorem tabs_sb {T : List (Addr × Str)} {H H' : Hp} {f : Addr} {xs : List V} (h : Tabs T H) (s : Sb f H H') (hf : H f = some (.lst xs)) : Tabs T H' := fun p hp => by
  obtain ⟨ps, h1, h2, h3⟩ := h p hp
  refine ⟨ps, s _ _ h1 (ne_of h1 hf (by intro z; cases z)), h2, fun pos cv hc => ?_⟩
  obtain ⟨c, e1, e2⟩ := h3 pos cv hc
  exact ⟨c, e1, s _ _ e2 (ne_of e2 hf (by intro z; cases z))⟩
theorem kt_lst {H : Hp} {D : Addr} {xs ys : List V} (h : H D = some (.lst xs)) : Kt H (upd H D (.lst ys)) := Kt.upd fun zs z => by
  rw [h] at z
  cases z
theorem pts_nm {m : Md} (ok : MdOk m) {z : Str} (h : z ∈ m.pts) : Nm z := by
  rcases List.mem_cons.mp h with h | h
  · rw [h]
    exact nmB_ok.mp (by decide +kernel)
  · exact (pool_nm (ok.pool z h)).1
theorem nm_len {z : Str} (h : Nm z) : z.length ≤ 1000 := Nat.le_trans h.2.1 (by decide)
theorem sm_two {H : Hp} {a b : Addr} {x y : V} {n : Nat} (h1 : H a = some (.tup [x, y])) (h2 : H b = some (.tup [x, y])) (hx : flatV x = true) (hy : flatV y = true) : Sm (n + 2) (.ref a) (.ref b) H :=
  sm_tup h1 h2 rfl (by show 2 ≤ 1000; decide) (sm_flats (by show (flatV x && (flatV y && true)) = true; rw [hx, hy]; rfl))
theorem sm_pair {H : Hp} {a b : Addr} {x1 x2 y1 y2 : V} {n : Nat} (h1 : H a = some (.lst [x1, x2])) (h2 : H b = some (.lst [y1, y2])) (e1 : Sm n x1 y1 H) (e2 : Sm n x2 y2 H) : Sm (n + 1) (.ref a) (.ref b) H := by
  refine sm_lst h1 h2 rfl (by show 2 ≤ 1000; decide) fun i x y hx hy => ?_
  match i, hx, hy with
  | 0, hx, hy =>
    cases hx
    cases hy
    exact e1
  | 1, hx, hy =>
    cases hx
    cases hy
    exact e2
  | i + 2, hx, hy => cases hx
abbrev qlam : Str := ("law" : Str) ++ ".<locals>." ++ "<lambda>"
theorem tabs_new {P : Addr} {q : Str} {H : Hp} (h : H P = some (.tbl #[])) : Tabs [(P, q)] H := fun p hp => by
  have e := List.mem_singleton.mp hp
  subst e
  exact ⟨#[], h, True.intro, fun pos cv hc => nomatch hc⟩
theorem free_of {l : List Str} (h : (l.all fun z => nmB z && (!pool.contains z && !(z == "start"))) = true) {m : Md} (ok : MdOk m) {z : Str} (hz : z ∈ l) : Nm z ∧ ¬ z ∈ m.pts := by
  have e := List.all_eq_true.mp h z hz
  simp only [Bool.and_eq_true, Bool.not_eq_true', beq_eq_false_iff_ne, ne_eq] at e
  obtain ⟨e1, e2, e3⟩ := e
  refine ⟨nmB_ok.mp e1, fun hm => ?_⟩
  rcases List.mem_cons.mp hm with hm | hm
  · exact e3 hm
  · have := List.contains_iff_mem.mpr (ok.pool z hm)
    rw [e2] at this
    cases this
theorem MdX.addO {H : Hp} {d o w b : Addr} {m : Md} {z : Str} (M : MdX H d o w b m) : MdX (upd H o (.lst (m.own.map V.str ++ [.str z]))) d o w b (m.addM z) := by
  obtain ⟨ws, h1, h2⟩ := M.wd
  obtain ⟨bs, h3, h4⟩ := M.bd
  have k := kt_lst (ys := m.own.map V.str ++ [.str z]) M.own
  refine ⟨by rw [upd_ne (ne_of M.dk M.own (by intro z; cases z))]; exact M.dk, ?_, ⟨ws, by rw [upd_ne M.now.symm]; exact h1, h2.keep k⟩, ⟨bs, by rw [upd_ne M.nob.symm]; exact h3, h4.keep k⟩, M.now, M.nob, M.nwb⟩
  rw [upd_same]
  show _ = some (HO.lst ((m.own ++ [z]).map V.str))
  rw [List.map_append]
  rfl
theorem gone_out {m : Md} (ok : MdOk m) : ¬ ("gone" : Str) ∈ m.pts := fun h => by
  rcases List.mem_cons.mp h with h | h
  · exact absurd h (by decide +kernel)
  · exact absurd (ok.pool _ h) (by decide +kernel)
theorem none_out {m : Md} (ok : MdOk m) : ¬ ("" : Str) ∈ m.pts := fun h => absurd (pts_nm ok h) fun n => absurd (nmB_ok.mpr n) (by decide +kernel)
theorem mk_putWd {l : Int} {o w b w2 : Addr} : putK (mk l o w b) kWd (.ref w2) = mk l o w2 b := by
  have n6 : ¬ kBd = kWd := fun e => k6 e.symm
  unfold putK mk
  rw [if_pos (by rw [List.any_cons, List.any_cons, List.any_cons, decide_eq_true (rfl : kWd = kWd)]; simp)]
  simp only [List.map_cons, List.map_nil, if_neg k2, if_neg k4, if_neg n6, if_true]
/-- what stands all along: the flow, the model, the web, the table of the law's code -/
structure All (K : PySem.W.Frag) (f c d p Pt : Addr) (m : Md) (H : Hp) : Prop where
  fl : Flow H f c
  md : MdAt H d m
  web : WebAt (CW K) H p m
  tab : Tabs [(Pt, qlam)] H
theorem All.same {K : PySem.W.Frag} {f c d p Pt : Addr} {m : Md} {H H' : Hp} (A : All K f c d p Pt m H) (s : Same H H') : All K f c d p Pt m H' := ⟨A.fl.same s, A.md.same s, A.web.same s, tabs_same A.tab s⟩
theorem All.ext {K : PySem.W.Frag} {f c d p Pt : Addr} {m : Md} {H H' : Hp} (A : All K f c d p Pt m H) (e : ExtN H H') (t : Tabs [(Pt, qlam)] H') : All K f c d p Pt m H' := ⟨A.fl.ext e, A.md.ext e, A.web.ext e, t⟩
theorem All.sb {K : PySem.W.Frag} {f c d p Pt : Addr} {m : Md} {H H' : Hp} (A : All K f c d p Pt m H) (s : Sb f H H') (F : Flow H' f c) : All K f c d p Pt m H' := by
  obtain ⟨xs, hf⟩ := A.fl.lst
  exact ⟨F, A.md.sb A.fl s, A.web.sb s hf, tabs_sb A.tab s hf⟩
theorem kt_ext {H H' : Hp} (e : ExtN H H') : Kt H H' := fun b xs h => e _ _ h fun ps z => by cases z
theorem nm_ok {z : Str} (h : Nm z) : PyData.canLay0 (.str z) = true := by
  show z.cps.all (fun c => decide (c < 0x110000)) = true
  rw [Array.all_eq_true']
  intro c hc
  have h1 := h.2.2 c (Array.mem_toList_iff.mpr hc)
  have h2 : (letters.cps.toList.all fun c => decide (c < 0x110000)) = true := by decide +kernel
  exact List.all_eq_true.mp h2 c h1
end Tw

set_option maxHeartbeats 4000000
namespace Tw
open PySem PySem.Spec PyProof.Rows L2
section
variable {P : Program} {w : World} {K : PySem.W.Frag} {mg : Str → Option Value} {base : Heap}
def sp_copy : Sp := fun vs H Q _ => ∃ (d : Addr) (m : Md), vs = [.ref d] ∧ MdAt H d m ∧ ∀ (d' o' w' b' : Addr) (H' : Hp), Same H H' → H d' = none → H o' = none → H w' = none → H b' = none → MdX H' d' o' w' b' m → Q (.ref d') H'
end
end Tw

set_option maxHeartbeats 4000000
namespace Tw
open PySem PySem.Spec PyProof.Rows L2
section
variable {P : Program} {w : World} {K : PySem.W.Frag} {mg : Str → Option Value} {base : Heap}
/-! ### _law_whole -/
def sp_lwhole : Sp := fun vs H Q _ => ∃ (v : V) (lo hi : Int), vs = [v, .int lo, .int hi] ∧ (plK v).isSome = true ∧ Q (.bl (whB lo hi v)) H
end
end Tw

set_option maxHeartbeats 4000000
namespace Tw
open PySem PySem.Spec PyProof.Rows L2
section
variable {P : Program} {w : World} {K : PySem.W.Frag} {mg : Str → Option Value} {base : Heap}
/-! ### _law_strange -/
def sp_strange : Sp := fun vs H Q _ => ∃ (f c : Addr) (lo hi : Int), vs = [.ref f, .int lo, .int hi] ∧ Flow H f c ∧ ∀ (v : V) (H' : Hp), (plK v).isSome = true → flatV v = true → whB lo hi v = false → Sb f H H' → Flow H' f c → Q v H'
end
end Tw

set_option maxHeartbeats 4000000
namespace Tw
open PySem PySem.Spec PyProof.Rows L2
/-! what is due of a tie of any plain values (as in TwK04) -/
def okE (v : V) : Bool := decide (v = .non) || whB (-1000) 1000 v
theorem tl_nn : tlV .non .non = [] := by decide
theorem tl_na {b : V} (h : ¬ b = .non) : tlV .non b = [b] := by
  unfold tlV
  rw [List.filter_cons, List.filter_cons, if_neg (by simp), if_pos (by simp [h])]
  rfl
theorem tl_an {a : V} (h : ¬ a = .non) : tlV a .non = [a] := by
  unfold tlV
  rw [List.filter_cons, List.filter_cons, if_pos (by simp [h]), if_neg (by simp)]
  rfl
theorem tl_ab {a b : V} (h : ¬ a = .non) (h' : ¬ b = .non) : tlV a b = [a, b] := by
  unfold tlV
  rw [List.filter_cons, List.filter_cons, if_pos (by simp [h]), if_pos (by simp [h'])]
  rfl
/-- a bound that is not good spoils the tie -/
theorem bd_bad {a b : V} (h : okE a = false ∨ okE b = false) : tieBnd a b = false := by
  have key : ∀ v : V, okE v = false → ¬ v = .non ∧ whB (-1000) 1000 v = false := fun v hv => by
    unfold okE at hv
    obtain ⟨h1, h2⟩ := Bool.or_eq_false_iff.mp hv
    exact ⟨of_decide_eq_false h1, h2⟩
  unfold tieBnd
  rw [Bool.and_eq_false_iff]
  left
  rcases h with h | h
  · obtain ⟨h1, h2⟩ := key _ h
    by_cases hb : b = .non
    · rw [hb, tl_an h1, List.all_cons, h2, Bool.false_and]
    · rw [tl_ab h1 hb, List.all_cons, h2, Bool.false_and]
  · obtain ⟨h1, h2⟩ := key _ h
    by_cases ha : a = .non
    · rw [ha, tl_na h1, List.all_cons, h2, Bool.false_and]
    · rw [tl_ab ha h1, List.all_cons, List.all_cons, h2, Bool.false_and, Bool.and_false]
theorem bd_none : tieBnd .non .non = false := by decide
theorem ok_wh {v : V} (h : okE v = true) (hn : ¬ v = .non) : whB (-1000) 1000 v = true := by
  unfold okE at h
  rw [decide_eq_false hn, Bool.false_or] at h
  exact h
theorem bd_one {a b : V} (h1 : okE a = true) (h2 : okE b = true) (h : (a = .non ∧ ¬ b = .non) ∨ (¬ a = .non ∧ b = .non)) : tieBnd a b = true := by
  unfold tieBnd
  rcases h with ⟨ha, hb⟩ | ⟨ha, hb⟩
  · obtain ⟨i, rfl, _⟩ := wh_int (ok_wh h2 hb)
    rw [ha, tl_na hb, List.all_cons, ok_wh h2 hb]
    show decide (i ≤ i) = true
    exact decide_eq_true (Int.le_refl i)
  · obtain ⟨i, rfl, _⟩ := wh_int (ok_wh h1 ha)
    rw [hb, tl_an ha, List.all_cons, ok_wh h1 ha]
    show decide (i ≤ i) = true
    exact decide_eq_true (Int.le_refl i)
theorem bd_two {i j : Int} (h1 : okE (.int i) = true) (h2 : okE (.int j) = true) : tieBnd (.int i) (.int j) = decide (i ≤ j) := by
  have ha : ¬ V.int i = .non := fun z => by cases z
  have hb : ¬ V.int j = .non := fun z => by cases z
  unfold tieBnd
  rw [tl_ab ha hb, List.all_cons, List.all_cons, ok_wh h1 ha, ok_wh h2 hb]
  rfl
theorem oV_inj {x y : Option Int} (h : oV x = oV y) : x = y := by
  cases x <;> cases y <;> first | rfl | (cases h; rfl) | cases h
theorem bd_of {a b : V} {bo to : Option Int} (ea : a = oV bo) (eb : b = oV to) (B : BOk bo to) : tieBnd a b = true := by
  subst ea eb
  have ok1 : ∀ (o : Option Int), (∀ x, o = some x → -1000 ≤ x ∧ x ≤ 1000) → okE (oV o) = true := fun o h => by
    cases o with
    | none => rfl
    | some x =>
      unfold okE
      rw [show whB (-1000) 1000 (oV (some x)) = true from decide_eq_true (h x rfl), Bool.or_true]
  have h1 := ok1 bo B.lo
  have h2 := ok1 to B.hi
  cases bo with
  | none =>
    cases to with
    | none => exact absurd ⟨rfl, rfl⟩ B.one
    | some y => exact bd_one h1 h2 (.inl ⟨rfl, fun z => (by cases z)⟩)
  | some x =>
    cases to with
    | none => exact bd_one h1 h2 (.inr ⟨fun z => (by cases z), rfl⟩)
    | some y =>
      show tieBnd (.int x) (.int y) = true
      rw [bd_two h1 h2]
      exact decide_eq_true (B.le x y rfl rfl)
def DueTi (m : Md) (y z : Str) (a b due : V) (H : Hp) : Prop := (¬ y ∈ m.pts ∧ ∃ t, due = .ref t ∧ H t = some (.tup [.str "NoPoint", .str y])) ∨ (y ∈ m.pts ∧ ¬ z ∈ m.pts ∧ ∃ t, due = .ref t ∧ H t = some (.tup [.str "NoPoint", .str z])) ∨
  (y ∈ m.pts ∧ z ∈ m.pts ∧ (y = z ∨ tieBnd a b = false) ∧ ∃ t, due = .ref t ∧ H t = some (.tup [.str "BadTie", a, b])) ∨ (y ∈ m.pts ∧ z ∈ m.pts ∧ ¬ y = z ∧ tieBnd a b = true ∧ due = .non)
theorem DueTi.keep {m : Md} {y z : Str} {a b due : V} {H H' : Hp} (h : DueTi m y z a b due H) (k : Kt H H') : DueTi m y z a b due H' := by
  rcases h with ⟨h, t, e, ht⟩ | ⟨h1, h2, t, e, ht⟩ | ⟨h1, h2, h3, t, e, ht⟩ | h
  · exact .inl ⟨h, t, e, k _ _ ht⟩
  · exact .inr (.inl ⟨h1, h2, t, e, k _ _ ht⟩)
  · exact .inr (.inr (.inl ⟨h1, h2, h3, t, e, k _ _ ht⟩))
  · exact .inr (.inr (.inr h))
section
variable {P : Program} {w : World} {K : PySem.W.Frag} {mg : Str → Option Value} {base : Heap}
def sp_tdue : Sp := fun vs H Q _ => ∃ (d : Addr) (m : Md) (y z : Str) (a b : V), vs = [.ref d, .str y, .str z, a, b] ∧ MdAt H d m ∧ m.own.length ≤ 10 ∧ m.wd.length ≤ 4 ∧ (plK a).isSome = true ∧ (plK b).isSome = true ∧ ∀ (due : V) (H' : Hp), Same H H' → DueTi m y z a b due H' → Q due H'
/-! ### the law -/
end
end Tw

set_option maxHeartbeats 4000000
/-! for x in D, D a dict of the top whose keys are texts -/
namespace Tw
open PySem PySem.Spec PyProof.Rows L2
theorem kd_all {K : PySem.W.Frag} {w : World} {a : Addr} {ks : List Str} (h : He.dicW K a = some (He.keysIn w.params ks)) : ∃ es n, KDict K w a es n ∧ es.toList.map He.keyOf = He.keysIn w.params ks := by
  obtain ⟨es, n, D⟩ := He.dicW_ok h
  refine ⟨es, n, D, ?_⟩
  unfold He.dicW at h
  rw [D.at_] at h
  simpa [D.low] using h
theorem kd_key {P : Params} {ks : List Str} {i : Nat} {z : Str} : ∀ {l : List DictEntry}, l.map He.keyOf = He.keysIn P ks → ks[i]? = some z → ∃ en t, l[i]? = some en ∧ en.key = .str z t := fun {l} h e => by
  have h1 : (l.map He.keyOf)[i]? = some (some (z, PyData.keyHash P z)) := by
    rw [h]
    unfold He.keysIn
    rw [List.getElem?_map, e]
    rfl
  rw [List.getElem?_map] at h1
  obtain ⟨en, h2, h3⟩ := Option.map_eq_some_iff.1 h1
  unfold He.keyOf at h3
  split at h3
  · rename_i x t q
    have := Option.some.inj h3
    have hx : x = z := congrArg Prod.fst this
    exact ⟨en, t, h2, by rw [q, hx]⟩
  · cases h3
/-- the keys, one by one; the dict never changes -/
def Itc (ks : List Str) : It := ⟨fun i _ => i < ks.length, fun i H x H' => H' = H ∧ ∃ z, ks[i]? = some z ∧ x = .str z, fun i _ => ks.length ≤ i⟩
theorem keyiter_plain {h : Heap} {it d : Addr} {i n ep : Nat} (st : h.IsKeyIter it d i n ep) : ∃ o, h.get? it = some o ∧ ∀ v, o.data ≠ .cell v := by
  obtain ⟨oi, e, _, dd⟩ := st
  exact ⟨oi, e, fun v z => by rw [dd] at z; cases z⟩
section
variable {X : Cx} {tg e : Expr} {d : Addr} {es : Array DictEntry} {n : Nat} {ks : List Str}
theorem pi_kd {td : TE} (D : KDict X.K X.w d es n) (hks : es.toList.map He.keyOf = He.keysIn X.w.params ks) (he : PE X e td) : PI X tg e (fun σ H R => td σ H fun x H1 => x = .ref d ∧ R (Itc ks) H1) := by
  have len : es.size = ks.length := by
    have := congrArg List.length hks
    unfold He.keysIn at this
    rw [List.length_map, List.length_map, Array.length_toList] at this
    exact this
  refine ⟨fun pins s σ H R I h => thn (he.run pins s σ H _ I h) fun u s1 ⟨x, H1, I1, rx, ex, q⟩ => ?_⟩
  subst ex
  obtain rfl : u = Value.ref d := rx
  refine iter_keys D.low (I1.kIn d _ D.at_) ⟨rfl, rfl, rfl⟩ rfl (pi_one (tk := s1.toks) I1 _ (tn := fun i h => h.IsKeyIter s1.heap.objs.size d i es.size n) ?_ ⟨_, Heap.get?_push_size _ rfl, rfl, rfl⟩ q)
  have one : ∀ b, b ∈ [s1.heap.objs.size] → b = s1.heap.objs.size := fun b hb => by simpa using hb
  refine ⟨List.mem_cons_self, fun i h st b hb => one b hb ▸ keyiter_plain st, fun i h h' st k => st.at fun oi e => k _ List.mem_cons_self oi e, ?_, ?_, fun A i s Q E st h => wpAny_pyIter_keyiter st h⟩
  · intro Y hP hw hK hc i pins s σ H E I hf st hg
    obtain ⟨f0, f1, f2, f3, f4, f5⟩ := hf _ List.mem_cons_self
    obtain ⟨en, t, h1, h2⟩ := kd_key (z := ks[i]) hks (List.getElem?_eq_getElem hg)
    have at_ := I.kIn d _ (by rw [hK]; exact D.at_)
    refine next_key_item st at_ rfl rfl (by rw [← Array.getElem?_toList]; exact h1) fun h' st' sb => ?_
    have I1 := I.turned (t' := s.toks) (h' := h') (fun b ob hb e => (sb.2 b hb).trans e) f0 f1 f3 f4 f5
    obtain ⟨oi, e, c, dd⟩ := id st'
    exact ⟨en.key, rfl, go_of (s := { s with heap := h' }) e c dd (by decide) ⟨.str ks[i], H, I1, ⟨t, h2⟩, ⟨rfl, _, List.getElem?_eq_getElem hg, rfl⟩, st', fun b hb => (hf b hb).1⟩⟩
  · intro Y hP hw hK hc i pins s σ H E I hf st hg
    obtain ⟨f0, f1, f2, f3, f4, f5⟩ := hf _ List.mem_cons_self
    have at_ := I.kIn d _ (by rw [hK]; exact D.at_)
    exact next_key_end (I.ok.hd hc) st at_ rfl rfl (by rw [len]; exact hg) fun h' eb => ⟨rfl, I.turned (t' := s.toks) (fun b ob hb e => eb b ob hb e) f0 f1 f3 f4 f5⟩
/-- a loop over such keys -/
theorem for_kd {g : TG} {tb : TS} {D : Ends} {σ : L2.St} {H : Hp} (Pv : Nat → L2.St → Hp → Prop) (h0 : Pv 0 σ H)
    (hs : ∀ i z σ H, ks[i]? = some z → Pv i σ H → g (.str z) σ H fun σ2 H2 => tb { D with nx := Pv (i + 1), ct := Pv (i + 1), bk := D.nx } σ2 H2) (hd : ∀ σ H, Pv ks.length σ H → D.nx σ H) :
    ∃ W : Nat → Nat → L2.St → Hp → Prop, (∃ m, W 0 m σ H) ∧ ∀ i m σ H, W i m σ H →
      ((Itc ks).stop i H ∧ D.nx σ H) ∨ ((Itc ks).go i H ∧ ∃ N : L2.St → Hp → Prop, (∀ σ' H', N σ' H' → ∃ m', m' < m ∧ W (i + 1) m' σ' H') ∧ ∀ x H', (Itc ks).yld i H x H' → g x σ H' fun σ2 H2 => tb { D with nx := N, ct := N, bk := D.nx } σ2 H2) := by
  refine ⟨fun i m σ H => i + m = ks.length ∧ Pv i σ H, ⟨ks.length, Nat.zero_add _, h0⟩, fun i m σ H ⟨hm, p⟩ => ?_⟩
  cases m with
  | zero =>
    have e : i = ks.length := hm
    exact .inl ⟨Nat.le_of_eq e.symm, hd σ H (e ▸ p)⟩
  | succ m =>
    refine .inr ⟨by show i < ks.length; omega, Pv (i + 1), fun σ' H' p' => ⟨m, Nat.lt_succ_self m, by omega, p'⟩, fun x H' ⟨eH, z, ez, ex⟩ => ?_⟩
    rw [eH, ex]
    exact hs i z σ H ez p
end
end Tw

set_option maxHeartbeats 4000000
namespace Tw
open PySem PySem.Spec PyProof.Rows L2
/-! deeds.py: what is done to a web -/
inductive Dd
  | las (l : Int)
  | mom (z : Str)
  | span (x : Wd)
  | tie (x : Bd)
  | unt (i : Int)
  | wo (z : Str)
def Dd.word : Dd → Str
  | .las _ => "by"
  | .mom _ => "moment"
  | .span _ => "span"
  | .tie _ => "tie"
  | .unt _ => "untie"
  | .wo _ => "without"
def Dd.rest : Dd → List V
  | .las l => [.int l]
  | .mom z => [.str z]
  | .span x => x.row
  | .tie x => x.row
  | .unt i => [.int i]
  | .wo z => [.str z]
def Dd.row (d : Dd) : List V := .str d.word :: d.rest
/-- its names are not endless -/
def Dd.Fine : Dd → Prop
  | .mom z => z.length ≤ 1000
  | .span x => x.en.length ≤ 1000
  | _ => True
/-- a refusal: the class, and what it tells -/
abbrev Rf := Str × List (Str × V)
def rf1 (c f : Str) (v : V) : Rf := (c, [(f, v), (("word" : Str), .str c)])
def rf2 (c f g : Str) (v u : V) : Rf := (c, [(g, u), (f, v), (("word" : Str), .str c)])
/-- what is refused of a deed, in its order -/
def Dd.no (m : Md) : Dd → Option Rf
  | .las l => if whB 1 1000 (.int l) = true then none else some (rf1 "BadBy" "by" (.int l))
  | .mom z => if nmB z = false then some (rf1 "BadName" "name" (.str z)) else if z ∈ m.pts then some (rf1 "Taken" "name" (.str z)) else if m.own.length < 10 then none else some (rf1 "Full" "most" (.int 10))
  | .span x => if nmB x.en = false then some (rf1 "BadName" "name" (.str x.en)) else if x.en ∈ m.pts then some (rf1 "Taken" "name" (.str x.en)) else if ¬ x.bg ∈ ("start" : Str) :: m.own then some (rf1 "NoMoment" "name" (.str x.bg))
    else if lenB (.int x.lo) (.int x.hi) = false then some (rf2 "BadLength" "low" "high" (.int x.lo) (.int x.hi)) else if lateB (oV x.la) = false then some (rf1 "BadLate" "late" (oV x.la)) else if m.wd.length < 4 then none else some (rf1 "Full" "most" (.int 4))
  | .tie x => if ¬ x.one ∈ m.pts then some (rf1 "NoPoint" "name" (.str x.one)) else if ¬ x.oth ∈ m.pts then some (rf1 "NoPoint" "name" (.str x.oth)) else if x.one = x.oth ∨ tieBnd (oV x.bot) (oV x.top) = false then some (rf2 "BadTie" "least" "most" (oV x.bot) (oV x.top))
    else if m.bd.length < 40 then none else some (rf1 "Full" "most" (.int 40))
  | .unt i => if whB 0 ((m.bd.length : Int) - 1) (.int i) = true then none else some (rf1 "NoTie" "at" (.int i))
  | .wo z => if ¬ z ∈ m.pts ∨ z = "start" then some (rf1 "NoPoint" "name" (.str z)) else if usedB m z = true then some (rf1 "Used" "name" (.str z)) else none
/-- the web behind it -/
def Dd.did (m : Md) : Dd → Md
  | .las l => m.wby l
  | .mom z => m.addM z
  | .span x => m.addS x
  | .tie x => m.addT x
  | .unt i => m.unt i.toNat
  | .wo z => m.drp z
theorem nm_no {z : Str} (n : ¬ Nm z) : nmB z = false := Bool.eq_false_iff.2 fun h => n (nmB_ok.1 h)
section
variable {P : Program} {w : World} {K : PySem.W.Frag} {mg : Str → Option Value} {base : Heap}
theorem mgx_Web_with_tie_least_most (T : Tp K mg) : MetG P w K mg base (L2.CX P w) 6 (CW K) "with_tie" (sp_tieX K) 3 ["least", "most"] (fun us ws => us ++ ws) := by
  obtain ⟨fd, F⟩ := f_Web_with_tie T
  exact ⟨_, fd, _, _, cl_Web T, me_Web_with_tie T, fnx_with_tie T F, kbn_of F fun kV doc pm an cdv ct us ws h1 h2 => match us, ws, h1, h2 with
    | [_, _, _], [_, _], _, _ => rfl⟩
/-- with_by, granted or refused -/
def sp_wbyB (K : PySem.W.Frag) : Sp := fun vs H Q E => ∃ (p : Addr) (m : Md) (l : Int), vs = [.ref p, .int l] ∧ WebAt (CW K) H p m ∧ (whB 1 1000 (.int l) = false → Out H E (He.ga K "BadBy") "BadBy" "by" (.int l)) ∧ (whB 1 1000 (.int l) = true → ∀ (q : Addr) (H' : Hp), Same H H' → H q = none → WebAt (CW K) H' q (m.wby l) → Q (.ref q) H')
theorem metx_wbyB (T : Tp K mg) : MetX P w K mg base 8 (CW K) "with_by" (sp_wbyB K) := by
  obtain ⟨fd, F⟩ := f_Web_with_by T
  refine metx_of F (cl_Web T) (me_Web_with_by T) (b_Web_with_by F) sc_Web_with_by (fun vs H Q E h => ?_) (fun cdv A outer s H vs Q E hr h tk => ?_)
  · obtain ⟨p, m, l, rfl, _⟩ := h
    rfl
  · obtain ⟨p, m, l, rfl, W, o, q⟩ := h
    obtain ⟨dx, a, b, c, ws, bs, h1, h2, h3, h4, h5, h6⟩ := W.ex
    cases hw : whB 1 1000 (.int l) with
    | true =>
      refine ⟨_, (pss_one (ps_ret (C8.pe_c (cal_woven T) hr (by decide) rfl (pa_cons (pv 1) (pa_cons (pe_fld (pv 0) rfl) (pa_cons (pe_fld (pv 0) rfl) (pa_cons (pe_fld (pv 0) rfl) pa_nil))))))), ?_⟩
      refine ⟨_, rfl, _, rfl, p, CW K, dx, _, _, rfl, h1, cl_Web T, na_moment_rows T, wf_m, _, rfl, p, CW K, dx, _, _, rfl, h1, cl_Web T, na_span_rows T, wf_s, _, rfl, p, CW K, dx, _, _, rfl, h1, cl_Web T, na_tie_rows T, wf_t, ?_⟩
      exact ⟨m.wby l, a, b, c, ws, bs, rfl, h2, h3, h4, h5, h6, W.len, of_decide_eq_true hw, q hw⟩
    | false =>
      refine ⟨_, (pss_one (ps_ret (pe_cx (calx_woven T) tk (fun _ _ _ _ h ↦ h) hr (by decide) rfl (pa_cons (pv 1) (pa_cons (pe_fld (pv 0) rfl) (pa_cons (pe_fld (pv 0) rfl) (pa_cons (pe_fld (pv 0) rfl) pa_nil))))))), ?_⟩
      refine ⟨_, rfl, _, rfl, p, CW K, dx, _, _, rfl, h1, cl_Web T, na_moment_rows T, wf_m, _, rfl, p, CW K, dx, _, _, rfl, h1, cl_Web T, na_span_rows T, wf_s, _, rfl, p, CW K, dx, _, _, rfl, h1, cl_Web T, na_tie_rows T, wf_t, ?_⟩
      exact ⟨_, _, _, _, rfl, rfl, hw, o hw⟩
/-! ### with_deed -/
def sp_wdd (K : PySem.W.Frag) : Sp := fun vs H Q E => ∃ (p t : Addr) (m : Md) (x : Dd), vs = [.ref p, .ref t] ∧ WebAt (CW K) H p m ∧ H t = some (.tup x.row) ∧ x.Fine ∧ (∀ r, x.no m = some r → OutF H E (He.ga K r.1) r.2) ∧ (x.no m = none → ∀ (q : Addr) (H' : Hp), Same H H' → H q = none → WebAt (CW K) H' q (x.did m) → Q (.ref q) H')
theorem calx_with_deed (T : Tp K mg) : CalX P w K mg base 10 "with_deed" (sp_wdd K) := by
  obtain ⟨fd, F⟩ := f_with_deed T
  refine calx_of F (g_with_deed T) (b_with_deed F) sc_with_deed (fun vs H Q E h => ?_) (fun cdv A outer s H vs Q E hr h tk => ?_)
  · obtain ⟨p, t, m, x, rfl, _⟩ := h
    rfl
  · obtain ⟨p, t, m, x, rfl, W, ht, fine, o, q⟩ := h
    refine ⟨_, (pss_cons (ps_asg (pv 1) (pg_head rfl (pgs_cons (pg_name (i := 2) sc_with_deed.nd rfl (.inl rfl)) (pgs_star (pg_name (i := 3) sc_with_deed.nd rfl (.inl rfl))))))
      (pss_cons (ps_if (pt_cmpR op_eq (pv 2) pe_str (nomark _)) (pss_one (ps_ret (pe_mxs (metx_wbyB T) (bm_Web_with_by T) tk (fun _ _ _ _ h ↦ h) hr (by decide) (pv 0) (pv 3)))) pss_nil)
      (pss_cons (ps_if (pt_cmpR op_eq (pv 2) pe_str (nomark _)) (pss_one (ps_ret (pe_mxs (metx_Web_with_moment T) (bm_Web_with_moment T) tk (fun _ _ _ _ h ↦ h) hr (by decide) (pv 0) (pv 3)))) pss_nil)
      (pss_cons (ps_if (pt_cmpR op_eq (pv 2) pe_str (nomark _)) (pss_cons (ps_asg (pv 3) (pg_lst rfl (pgs_cons (pg_name (i := 4) sc_with_deed.nd rfl (.inl rfl)) (pgs_cons (pg_name (i := 5) sc_with_deed.nd rfl (.inl rfl)) (pgs_cons (pg_name (i := 6) sc_with_deed.nd rfl (.inl rfl)) (pgs_cons (pg_name (i := 7) sc_with_deed.nd rfl (.inl rfl)) (pgs_cons (pg_name (i := 8) sc_with_deed.nd rfl (.inl rfl)) pgs_nil)))))))
        (pss_one (ps_ret (pe_mgx (mgx_Web_with_span_late T) tk (fun _ _ _ _ h ↦ h) hr (by decide) (pv 0) (pa_cons (pv 4) (pa_cons (pv 5) (pa_cons (pv 6) (pa_cons (pv 7) pa_nil)))) (pk_cons (pv 8) pk_nil))))) pss_nil)
      (pss_cons (ps_if (pt_cmpR op_eq (pv 2) pe_str (nomark _)) (pss_cons (ps_asg (pv 3) (pg_lst rfl (pgs_cons (pg_name (i := 9) sc_with_deed.nd rfl (.inl rfl)) (pgs_cons (pg_name (i := 10) sc_with_deed.nd rfl (.inl rfl)) (pgs_cons (pg_name (i := 11) sc_with_deed.nd rfl (.inl rfl)) (pgs_cons (pg_name (i := 12) sc_with_deed.nd rfl (.inl rfl)) pgs_nil))))))
        (pss_one (ps_ret (pe_mgx (mgx_Web_with_tie_least_most T) tk (fun _ _ _ _ h ↦ h) hr (by decide) (pv 0) (pa_cons (pv 9) (pa_cons (pv 10) pa_nil)) (pk_cons (pv 11) (pk_cons (pv 12) pk_nil)))))) pss_nil)
      (pss_cons (ps_if (pt_cmpR op_eq (pv 2) pe_str (nomark _)) (pss_one (ps_ret (pe_mxs (metx_Web_without T) (bm_Web_without T) tk (fun _ _ _ _ h ↦ h) hr (by decide) (pv 0) (pv 3)))) pss_nil)
      (pss_one (ps_ret (pe_mxs (metx_Web_without_tie T) (bm_Web_without_tie T) tk (fun _ _ _ _ h ↦ h) hr (by decide) (pv 0) (pv 3)))))))))), ?_⟩
    have few : x.rest.length ≤ 1000 := by cases x <;> exact Nat.le_of_ble_eq_true rfl
    refine ⟨_, rfl, t, .str x.word, x.rest, rfl, .inl (.inl ht), few, fun D nD => ⟨_, _, rfl, _, _, rfl, rfl, ?_⟩⟩
    have s1 := same_upd (o := .lst x.rest) nD
    have hD : (upd H D (.lst x.rest)) D = some (.lst x.rest) := upd_same
    have W1 := W.same s1
    generalize upd H D (.lst x.rest) = H1 at s1 hD W1 ⊢
    obtain ⟨dx, _, _, _, _, _, g1, _⟩ := W1.ex
    have met : ∀ {q0 g : Addr}, H1 q0 = none → Same H1 (upd H1 q0 (.met g p)) ∧ (upd H1 q0 (.met g p)) D = some (.lst x.rest) ∧ (upd H1 q0 (.met g p)) q0 = some (.met g p) := fun n => ⟨same_upd n, same_upd n _ _ hD, upd_same⟩
    cases x with
    | las l =>
      refine ⟨_, rfl, rfl, _, rfl, iteT ?_⟩
      refine ⟨_, rfl, p, dx, _, rfl, g1, wf_no (by decide +kernel), fun q0 nq => ?_⟩
      obtain ⟨s2, hD2, hq2⟩ := met (g := He.ma K (He.ga K "Web") "with_by") nq
      refine ⟨_, rfl, D, _, rfl, .inr (.inl (.inl hD2)), hq2, p, m, l, rfl, W1.same s2, fun e => ?_, fun e q1 H' s' n' W' => q ?_ q1 H' ((s1.trans s2).trans s') ((s1.trans s2).free n') W'⟩
      · exact (o (rf1 "BadBy" "by" (.int l)) (by simp [Dd.no, e])).same (s1.trans s2)
      · simp [Dd.no, e]
    | mom z =>
      refine ⟨_, rfl, rfl, _, rfl, iteF ⟨_, rfl, rfl, _, rfl, iteT ?_⟩⟩
      refine ⟨_, rfl, p, dx, _, rfl, g1, wf_no (by decide +kernel), fun q0 nq => ?_⟩
      obtain ⟨s2, hD2, hq2⟩ := met (g := He.ma K (He.ga K "Web") "with_moment") nq
      have s12 := s1.trans s2
      refine ⟨_, rfl, D, _, rfl, .inr (.inl (.inl hD2)), hq2, p, m, z, rfl, W1.same s2, fine, fun n => ?_, fun n i => ?_, fun n i f => ?_, fun n i f q1 H' s' n' W' => q ?_ q1 H' (s12.trans s') (s12.free n') W'⟩
      · exact (o (rf1 "BadName" "name" (.str z)) (by simp [Dd.no, nm_no n])).same s12
      · exact (o (rf1 "Taken" "name" (.str z)) (by simp [Dd.no, nmB_ok.2 n, i])).same s12
      · exact (o (rf1 "Full" "most" (.int 10)) (by simp [Dd.no, nmB_ok.2 n, i, f])).same s12
      · simp [Dd.no, nmB_ok.2 n, i, f]
    | span y =>
      refine ⟨_, rfl, rfl, _, rfl, iteF ⟨_, rfl, rfl, _, rfl, iteF ⟨_, rfl, rfl, _, rfl, iteT ?_⟩⟩⟩
      refine ⟨_, rfl, D, _, rfl, .inl (.inl hD), rfl, _, _, rfl, _, _, rfl, _, _, rfl, _, _, rfl, _, _, rfl, rfl, ?_⟩
      refine ⟨_, rfl, p, dx, _, rfl, g1, wf_no (by decide +kernel), _, rfl, _, rfl, _, rfl, _, rfl, _, rfl, rfl, rfl, ?_⟩
      have la : (plK (oV y.la)).isSome = true := by cases y.la <;> rfl
      refine ⟨p, m, y.en, y.bg, .int y.lo, .int y.hi, oV y.la, rfl, W1, fine, rfl, rfl, la, ⟨fun n => ?_, fun n i => ?_, fun n i b => ?_, fun n i b l => ?_, fun n i b l h => ?_, fun n i b l h f => ?_⟩, fun n i b l h f lo hi la' e1 e2 e3 q1 H' s' n' W' => ?_⟩
      · exact (o (rf1 "BadName" "name" (.str y.en)) (by simp [Dd.no, nm_no n])).same s1
      · exact (o (rf1 "Taken" "name" (.str y.en)) (by simp [Dd.no, nmB_ok.2 n, i])).same s1
      · exact (o (rf1 "NoMoment" "name" (.str y.bg)) (by simp only [Dd.no, nmB_ok.2 n, if_neg i, if_pos b]; rfl)).same s1
      · exact (o (rf2 "BadLength" "low" "high" (.int y.lo) (.int y.hi)) (by simp only [Dd.no, nmB_ok.2 n, if_neg i, if_neg (show ¬ ¬ y.bg ∈ ("start" : Str) :: m.own from fun z => z b), if_pos l]; rfl)).same s1
      · exact (o (rf1 "BadLate" "late" (oV y.la)) (by simp only [Dd.no, nmB_ok.2 n, if_neg i, if_neg (show ¬ ¬ y.bg ∈ ("start" : Str) :: m.own from fun z => z b), l, if_pos h]; rfl)).same s1
      · exact (o (rf1 "Full" "most" (.int 4)) (by simp only [Dd.no, nmB_ok.2 n, if_neg i, if_neg (show ¬ ¬ y.bg ∈ ("start" : Str) :: m.own from fun z => z b), l, h, if_neg f]; rfl)).same s1
      · have ey : (⟨y.en, y.bg, lo, hi, la'⟩ : Wd) = y := by rw [← V.int.inj e1, ← V.int.inj e2, ← oV_injW e3]
        rw [ey] at W'
        exact q (by simp only [Dd.no, nmB_ok.2 n, if_neg i, if_neg (show ¬ ¬ y.bg ∈ ("start" : Str) :: m.own from fun z => z b), l, h, if_pos f]; rfl) q1 H' (s1.trans s') (s1.free n') W'
    | tie y =>
      refine ⟨_, rfl, rfl, _, rfl, iteF ⟨_, rfl, rfl, _, rfl, iteF ⟨_, rfl, rfl, _, rfl, iteF ⟨_, rfl, rfl, _, rfl, iteT ?_⟩⟩⟩⟩
      refine ⟨_, rfl, D, _, rfl, .inl (.inl hD), rfl, _, _, rfl, _, _, rfl, _, _, rfl, _, _, rfl, rfl, ?_⟩
      refine ⟨_, rfl, p, dx, _, rfl, g1, wf_no (by decide +kernel), _, rfl, _, rfl, _, rfl, _, rfl, rfl, rfl, ?_⟩
      have la : (plK (oV y.bot)).isSome = true := by cases y.bot <;> rfl
      have lb : (plK (oV y.top)).isSome = true := by cases y.top <;> rfl
      refine ⟨p, m, y.one, y.oth, oV y.bot, oV y.top, rfl, W1, la, lb, fun a => ?_, fun a b => ?_, fun a b c => ?_, fun a b c e f => ?_, fun a b c f bo to e1 e2 bk q1 H' s' n' W' => ?_⟩
      · exact (o (rf1 "NoPoint" "name" (.str y.one)) (by simp only [Dd.no, if_pos a])).same s1
      · exact (o (rf1 "NoPoint" "name" (.str y.oth)) (by simp only [Dd.no, if_neg (show ¬ ¬ y.one ∈ m.pts from fun z => z a), if_pos b])).same s1
      · exact (o (rf2 "BadTie" "least" "most" (oV y.bot) (oV y.top)) (by simp only [Dd.no, if_neg (show ¬ ¬ y.one ∈ m.pts from fun z => z a), if_neg (show ¬ ¬ y.oth ∈ m.pts from fun z => z b), if_pos c])).same s1
      · exact (o (rf1 "Full" "most" (.int 40)) (by simp only [Dd.no, if_neg (show ¬ ¬ y.one ∈ m.pts from fun z => z a), if_neg (show ¬ ¬ y.oth ∈ m.pts from fun z => z b), if_neg (show ¬ (y.one = y.oth ∨ tieBnd (oV y.bot) (oV y.top) = false) from fun z => z.elim c fun z => by rw [e] at z; cases z), if_neg f])).same s1
      · have ey : (⟨y.one, y.oth, bo, to⟩ : Bd) = y := by rw [← oV_injW e1, ← oV_injW e2]
        rw [ey] at W'
        have e : tieBnd (oV y.bot) (oV y.top) = true := by rw [e1, e2]; exact bd_of rfl rfl bk
        exact q (by simp only [Dd.no, if_neg (show ¬ ¬ y.one ∈ m.pts from fun z => z a), if_neg (show ¬ ¬ y.oth ∈ m.pts from fun z => z b), if_neg (show ¬ (y.one = y.oth ∨ tieBnd (oV y.bot) (oV y.top) = false) from fun z => z.elim c fun z => by rw [e] at z; cases z), if_pos f]) q1 H' (s1.trans s') (s1.free n') W'
    | unt i =>
      refine ⟨_, rfl, rfl, _, rfl, iteF ⟨_, rfl, rfl, _, rfl, iteF ⟨_, rfl, rfl, _, rfl, iteF ⟨_, rfl, rfl, _, rfl, iteF ⟨_, rfl, rfl, _, rfl, iteF ?_⟩⟩⟩⟩⟩
      refine ⟨_, rfl, p, dx, _, rfl, g1, wf_no (by decide +kernel), fun q0 nq => ?_⟩
      obtain ⟨s2, hD2, hq2⟩ := met (g := He.ma K (He.ga K "Web") "without_tie") nq
      have s12 := s1.trans s2
      refine ⟨_, rfl, D, _, rfl, .inr (.inl (.inl hD2)), hq2, p, m, .int i, rfl, W1.same s2, rfl, fun e => ?_, fun j ej hj q1 H' s' n' W' => ?_⟩
      · exact (o (rf1 "NoTie" "at" (.int i)) (by simp [Dd.no, e])).same s12
      · cases ej
        exact q (by simp only [Dd.no, if_pos (show whB 0 ((m.bd.length : Int) - 1) (.int (j : Int)) = true from decide_eq_true ⟨by omega, by omega⟩)]) q1 H' (s12.trans s') (s12.free n') W'
    | wo z =>
      refine ⟨_, rfl, rfl, _, rfl, iteF ⟨_, rfl, rfl, _, rfl, iteF ⟨_, rfl, rfl, _, rfl, iteF ⟨_, rfl, rfl, _, rfl, iteF ⟨_, rfl, rfl, _, rfl, iteT ?_⟩⟩⟩⟩⟩
      refine ⟨_, rfl, p, dx, _, rfl, g1, wf_no (by decide +kernel), fun q0 nq => ?_⟩
      obtain ⟨s2, hD2, hq2⟩ := met (g := He.ma K (He.ga K "Web") "without") nq
      have s12 := s1.trans s2
      refine ⟨_, rfl, D, _, rfl, .inr (.inl (.inl hD2)), hq2, p, m, z, rfl, W1.same s2, fun n => ?_, fun i n u => ?_, fun i n u q1 H' s' n' W' => ?_⟩
      · exact (o (rf1 "NoPoint" "name" (.str z)) (by simp only [Dd.no, if_pos n])).same s12
      · exact (o (rf1 "Used" "name" (.str z)) (by simp only [Dd.no, if_neg (show ¬ (¬ z ∈ m.pts ∨ z = "start") from fun e => e.elim (fun e => e i) n), if_pos u])).same s12
      · exact q (by simp only [Dd.no, if_neg (show ¬ (¬ z ∈ m.pts ∨ z = "start") from fun e => e.elim (fun e => e i) n), u]; rfl) q1 H' (s12.trans s') (s12.free n') W'
end
end Tw

set_option maxHeartbeats 4000000
/-! zip of a tuple and a list, by the library's draws of any kinds -/
namespace Tw
open PySem PySem.Spec PyProof.Rows L2
abbrev IsZ (h : Heap) (z TI TO : Addr) (u : Value) : Prop := IsZip h z TI TO u
/-- the cells of such a zip as they stand at turn i -/
structure Zm (a b z TI TO i1 i2 : Addr) (i : Nat) (h : Heap) : Prop where
  zip : IsZ h z TI TO .none
  src : IsTupOf2 h TI (.ref i1) (.ref i2)
  out : ∃ x y, IsTupOf2 h TO x y
  one : h.IsTupleIter i1 a i
  two : h.IsListIter i2 b i
/-- the items of both, in new pairs -/
def ItM (K : PySem.W.Frag) (a b : Addr) : It where
  go := fun i H => ∃ (xs ys : List V) (x y : V), SqT K H a xs ∧ SqL K H b ys ∧ xs[i]? = some x ∧ ys[i]? = some y
  yld := fun i H v H' => ∃ T x y, v = .ref T ∧ H T = none ∧ H' = upd H T (.tup [x, y]) ∧ (∀ xs, SqT K H a xs → xs[i]? = some x) ∧ ∀ ys, SqL K H b ys → ys[i]? = some y
  stop := fun i H => ∃ xs ys : List V, SqT K H a xs ∧ SqL K H b ys ∧ xs.length = i ∧ ys.length = i
theorem walk_zipM {K : PySem.W.Frag} {a b : Addr} {xs ys : List V} {n : Nat} (h1 : xs.length = n) (h2 : ys.length = n) : Walk (ItM K a b) n (fun H => SqT K H a xs ∧ SqL K H b ys) (YPair (fun i => xs[i]?) (fun i => ys[i]?)) := by
  refine ⟨fun i _ hi q => ?_, fun _ q => ⟨xs, ys, q.1, q.2, h1, h2⟩, fun i H v H' _ q y => ?_⟩
  · exact ⟨xs, ys, _, _, q.1, q.2, List.getElem?_eq_getElem (by omega), List.getElem?_eq_getElem (by omega)⟩
  · obtain ⟨T, x, z, e1, e2, e3, e4, e5⟩ := y
    exact ⟨T, x, z, e1, e2, e3, e4 xs q.1, e5 ys q.2⟩
theorem five {α : Type} {P : α → Prop} {a b c d e : α} (h1 : P a) (h2 : P b) (h3 : P c) (h4 : P d) (h5 : P e) : ∀ x ∈ [a, b, c, d, e], P x := by
  intro x hx
  simp only [List.mem_cons, List.not_mem_nil, or_false] at hx
  rcases hx with rfl | rfl | rfl | rfl | rfl <;> assumption
theorem turn_m {P : Program} {w : World} {K : PySem.W.Frag} {elts : List Expr} {kk : Nat} {tpos : Pos} {a b z TI TO i1 i2 : Addr} (D : ZipSep2 z TI TO i1 i2 [i1, a] [i2, b]) (na : a ≠ i1) (nb : b ≠ i2) :
    Turn P w K (.Tuple elts kk tpos) (ItM K a b) [z, TI, TO, i1, i2] z (Zm a b z TI TO i1 i2) where
  mem := List.mem_cons_self
  obj := fun i h st => by
    obtain ⟨x, y, ho⟩ := st.out
    obtain ⟨o1, e1, _, d1⟩ := st.one
    obtain ⟨o2, e2, _, d2⟩ := st.two
    exact five ⟨_, st.zip, fun v q => nomatch q⟩ ⟨_, st.src, fun v q => nomatch q⟩ ⟨_, ho, fun v q => nomatch q⟩ ⟨o1, e1, fun v q => by rw [d1] at q; cases q⟩ ⟨o2, e2, fun v q => by rw [d2] at q; cases q⟩
  keep := fun i h h' st k => by
    obtain ⟨x, y, ho⟩ := st.out
    exact ⟨k z (by simp) _ st.zip, k TI (by simp) _ st.src, ⟨x, y, k TO (by simp) _ ho⟩, st.one.at fun o q => k i1 (by simp) o q, st.two.at fun o q => k i2 (by simp) o q⟩
  item := by
    intro X hP hw hK hc i pins s σ H E I hf st hg
    subst hP hw hK
    obtain ⟨xs, ys, x, y, qx, qy, hx, hy⟩ := hg
    obtain ⟨x0, y0, ho⟩ := st.out
    obtain ⟨its, rv, p, _⟩ := I.tuple qx
    obtain ⟨its2, rv2, p2, _⟩ := I.list qy
    have hh : X.A.in1.handled = none := I.ok.hd hc
    obtain ⟨u, hu, ru⟩ := rv.get hx
    obtain ⟨u2, hu2, ru2⟩ := rv2.get hy
    have l1 : i < its.toArray.size := by
      have := (List.getElem?_eq_some_iff.1 hu).1
      simpa using this
    have l2 : i < its2.toArray.size := by
      have := (List.getElem?_eq_some_iff.1 hu2).1
      simpa using this
    have zl : z < s.heap.objs.size := Heap.lt_size st.zip
    refine wpAny_pyNext_zipD2_item D (Draws.tuple hh i1 a na its.toArray) (Draws.list hh i2 b nb its2.toArray) st.zip st.src ho ⟨st.one, p⟩ ⟨st.two, p2.isList⟩ l1 l2 fun v1 v2 h' tk e1 e2 z' TO' st1 st2 hT hs hk => ?_
    have e1 : its.toArray[i]? = some v1 := e1
    have e2 : its2.toArray[i]? = some v2 := e2
    have e1 : v1 = u := by
      rw [show its.toArray[i]? = some u by simpa using hu] at e1
      exact (Option.some.inj e1).symm
    have e2 : v2 = u2 := by
      rw [show its2.toArray[i]? = some u2 by simpa using hu2] at e2
      exact (Option.some.inj e2).symm
    subst e1 e2
    refine ⟨_, rfl, wpAny_letOwnedTupleGo_zip (s := { s with heap := h', toks := tk }) z' fun h'' z'' sb => ?_⟩
    have hT2 : h''.get? s.heap.objs.size = some { cls := .type "tuple", data := .seq #[v1, v2] } := (sb.2 _ (Nat.ne_of_gt zl)).trans hT
    have new : ObjOk X.prog X.w (upd H s.heap.objs.size (.tup [x, y])) h'' s.heap.objs.size (.tup [x, y]) :=
      ⟨by show 2 ≤ sizeLine; decide, [v1, v2], .cons ru (.cons ru2 .nil), ⟨_, hT2, rfl, _, rfl⟩⟩
    have I1 : Inv X pins σ (upd H s.heap.objs.size (.tup [x, y])) { s with heap := h'', toks := tk } :=
      I.turnedNew (t' := tk) (ch := [z, TI, TO, i1, i2]) (fun c o hb q => by
        simp only [List.mem_cons, List.not_mem_nil, or_false, not_or] at hb
        exact (sb.2 c hb.1).trans (hk c o hb.1 hb.2.2.1 hb.2.2.2.1 hb.2.2.2.2 q)) hf (Nat.le_refl _) new
    refine ⟨.ref s.heap.objs.size, _, I1, rfl, ⟨_, x, y, rfl, I.hok.fresh (Nat.le_refl _), rfl, fun l hl => by rw [I.tuple_inj hl qx]; exact hx, fun l hl => by rw [I.list_inj hl qy]; exact hy⟩, ⟨z'', ?_, ⟨v1, v2, ?_⟩, ?_, ?_⟩, ?_⟩
    · exact (sb.2 _ D.TIz).trans (hk _ _ D.TIz D.TITO D.TIi1 D.TIi2 st.src)
    · exact (sb.2 _ D.TOz).trans TO'
    · exact st1.1.at fun o q => (sb.2 _ D.zi1.symm).trans q
    · exact st2.1.at fun o q => (sb.2 _ D.zi2.symm).trans q
    · obtain ⟨o1, q1, _⟩ := st.one
      obtain ⟨o2, q2, _⟩ := st.two
      have off : ∀ c ∈ [z, TI, TO, i1, i2], c < s.heap.objs.size := five zl (Heap.lt_size st.src) (Heap.lt_size ho) (Heap.lt_size q1) (Heap.lt_size q2)
      intro c hc
      rw [upd_ne (Nat.ne_of_lt (off c hc))]
      exact (hf c hc).1
  done := by
    intro X hP hw hK hc i pins s σ H E I hf st hg
    subst hP hw hK
    obtain ⟨xs, ys, qx, qy, e1, e2⟩ := hg
    obtain ⟨x0, y0, ho⟩ := st.out
    obtain ⟨its, rv, p, _⟩ := I.tuple qx
    obtain ⟨its2, rv2, p2, _⟩ := I.list qy
    have hh : X.A.in1.handled = none := I.ok.hd hc
    have l1 : i = its.toArray.size := by
      have := rv.length
      simp only [List.size_toArray]
      omega
    have l2 : i = its2.toArray.size := by
      have := rv2.length
      simp only [List.size_toArray]
      omega
    refine wpAny_pyNext_zipD2_end D (Draws.tuple hh i1 a na its.toArray) (Draws.list hh i2 b nb its2.toArray) st.zip st.src ho ⟨st.one, p⟩ ⟨st.two, p2.isList⟩ (Nat.le_of_eq l1) (Nat.le_of_eq l2) (.inl l1) fun h' tk hk => ⟨rfl, I.turnedL (t' := tk) (ch := [z, TI, TO, i1, i2]) (fun c o hb q => ?_) hf⟩
    simp only [List.mem_cons, List.not_mem_nil, or_false, not_or] at hb
    exact hk c o hb.1 hb.2.2.1 hb.2.2.2.1 hb.2.2.2.2 q
  self := fun A i s Q E st h => wpAny_pyIter_zip st.zip h
def iZipM (K : PySem.W.Frag) (ta : TA) : TI := fun σ H R => ta σ H fun vs H1 => ∃ a b xs ys, vs = [.ref a, .ref b] ∧ SqT K H1 a xs ∧ SqL K H1 b ys ∧ R (ItM K a b) H1
theorem pi_zipM {X : Cx} {e e2 : Expr} {ta : TA} {p pos tpos : Pos} {elts : List Expr} {kk : Nat} (hg : Gl X "zip") (hm : X.mg "zip" = none) (ha : PA X [e, e2] ta)
    (hs : starEach [e, e2] X.env = (false, eval e X.env) :: starEach [e2] X.env := by rfl) (hpl : (backTo pos (starEach [e2] X.env)).any (·.1) = false := by rfl) :
    PI X (.Tuple elts kk tpos) (.Call (.Name "zip" p) [e, e2] [] pos) (iZipM X.K ta) := by
  refine ⟨fun pins s σ H R I h => ?_⟩
  refine Call_ (ld_blt I hg hm PyProof.Rows.boot_zip (PyProof.Rows.callWith_type1 (thn (ha.run pos pins s σ H _ I h) fun us s1 ⟨vs, H1, I1, r1, q1⟩ => ?_) hs hpl))
  obtain ⟨a, b, xs, ys, rfl, qx, qy, q⟩ := q1
  cases r1 with
  | cons r rr =>
  cases rr with
  | cons r' rr =>
  cases rr
  cases r
  cases r'
  obtain ⟨its, rv, p1, _⟩ := I1.tuple qx
  obtain ⟨its2, rv2, p2, _⟩ := I1.list qy
  obtain ⟨o1, ho1, _⟩ := id p1
  have la : a < s1.heap.objs.size := Heap.lt_size ho1
  have lb : b < s1.heap.objs.size := p2.lt
  refine zip_begins2 (begins_tuple a its.toArray) (begins_list b its2.toArray) p1 p2.isList fun h' hz hTI hTO h1 h2 hsz hk => wpAny_pyIter_zip hz ?_
  have I2 : Inv X pins σ H1 { s1 with heap := h' } := I1.kept (t' := s1.toks) hk
  have fr : ∀ k : Nat, FpOk X pins H1 (s1.heap.objs.size + k) := fun k => I1.fpOk (Nat.le_add_right _ _) (I1.hok.fresh (Nat.le_add_right _ _))
  exact ⟨s1.heap.objs.size + 4, [s1.heap.objs.size + 4, s1.heap.objs.size + 2, s1.heap.objs.size + 3, s1.heap.objs.size, s1.heap.objs.size + 1], _, _, H1, rfl, I2,
    turn_m (zip_sep2 (fun c hc => by rw [List.mem_singleton.1 hc]; exact la) (fun c hc => by rw [List.mem_singleton.1 hc]; exact lb)) (Nat.ne_of_lt la) (Nat.ne_of_lt (Nat.lt_succ_of_lt lb)), ⟨hz, hTI, ⟨_, _, hTO⟩, ⟨_, h1, rfl, rfl⟩, ⟨_, h2, rfl, rfl⟩⟩, five (fr 4) (fr 2) (fr 3) (fr 0) (fr 1), q⟩
end Tw

set_option maxHeartbeats 4000000
/-! numbers, names and None as they stand in texts: the texts by themselves -/
namespace Tw
open PySem PySem.Spec PyProof.Rows L2
/-- the signs of a whole number -/
def itL (i : Int) : List Nat := if i < 0 then 45 :: TL.numL i.natAbs else TL.numL i.natAbs
def numS (i : Int) : Str := Str.ofString (toString i)
theorem tl_numS (i : Int) : TL.tl (numS i) = itL i := by
  cases i with
  | ofNat n =>
    show TL.tl (Str.ofString (toString ((n : Nat) : Int))) = _
    rw [TL.tl_num]
    rfl
  | negSucc m =>
    have e : toString (Int.negSucc m) = "-" ++ Nat.repr (m + 1) := rfl
    unfold numS
    rw [e, TL.tl_ofString, String.toList_append, List.map_append]
    have e2 : (Nat.repr (m + 1)).toList = Nat.toDigits 10 (m + 1) := by
      simp [Nat.repr]
    rw [e2]
    unfold itL
    rw [if_pos (Int.negSucc_lt_zero m)]
    rfl
theorem numL_head {n : Nat} (h : 0 < n) : ∀ c r, TL.numL n = c :: r → c ≠ 48 := by
  induction n using Nat.strongRecOn with
  | _ n ih =>
    intro c r e
    by_cases l : n < 10
    · rw [TL.numL_lt l] at e
      have := (List.cons.inj e).1
      omega
    · rw [TL.numL_step (by omega)] at e
      cases q : TL.numL (n / 10) with
      | nil => exact absurd q (TL.numL_ne _)
      | cons d s =>
        rw [q] at e
        have h1 := (List.cons.inj e).1
        have h2 := ih (n / 10) (by omega) (by omega) d s q
        rw [← h1]
        exact h2
theorem mk_tlS (x : Str) : (⟨(TL.tl x).toArray⟩ : Str) = x := TL.mk_tl x
theorem sub_minus (r : List Nat) : Builtin.Str.subAt ⟨(45 :: r).toArray⟩ "-" 0 = true := by
  unfold Builtin.Str.subAt
  have e : ("-" : Str) = ⟨#[45]⟩ := by decide +kernel
  rw [e]
  simp [Str.length]
theorem rmp_minus {x : Str} {r : List Nat} (h : TL.tl x = 45 :: r) : Txt.removeprefix x "-" = ⟨r.toArray⟩ := by
  have e : ("-" : Str) = ⟨#[45]⟩ := by decide +kernel
  have ex : x = ⟨(45 :: r).toArray⟩ := by rw [← h, mk_tlS]
  subst ex
  rw [StrLaws.removeprefix_eq, sub_minus, e]
  simp [Str.length]
theorem rmp_none {x : Str} (h : ∀ r, TL.tl x ≠ 45 :: r) : Txt.removeprefix x "-" = x := by
  rw [StrLaws.removeprefix_eq]
  refine if_neg fun z => ?_
  rw [Bool.and_eq_true] at z
  have e : ("-" : Str) = ⟨#[45]⟩ := by decide +kernel
  have ex : x = ⟨(TL.tl x).toArray⟩ := (mk_tlS x).symm
  cases q : TL.tl x with
  | nil =>
    rw [q] at ex
    subst ex
    have z1 := z.1
    rw [e] at z1
    exact absurd z1 (by simp [Str.length])
  | cons c r =>
    rw [q] at ex
    have z2 := z.2
    rw [ex, e] at z2
    unfold Builtin.Str.subAt at z2
    have : c = 45 := by
      simpa [Str.length] using z2
    exact h r (by rw [q, this])
theorem numL_len9 {n : Nat} (h : n < 1000000000) : 1 ≤ (TL.numL n).length ∧ (TL.numL n).length ≤ 9 := by
  refine ⟨?_, TL.numL_len (by decide) h⟩
  cases q : TL.numL n with
  | nil => exact absurd q (TL.numL_ne _)
  | cons c r => exact Nat.succ_pos _
/-- the figures of a number's word -/
theorem figures_of {i : Int} : Txt.removeprefix (numS i) "-" = ⟨(TL.numL i.natAbs).toArray⟩ := by
  by_cases h : i < 0
  · exact rmp_minus (by rw [tl_numS, itL, if_pos h])
  · have e : TL.tl (numS i) = TL.numL i.natAbs := by rw [tl_numS, itL, if_neg h]
    rw [rmp_none fun r z => ?_, ← e, mk_tlS]
    rw [e] at z
    have := TL.numL_digits i.natAbs 45 (by rw [z]; exact List.mem_cons_self)
    omega
theorem int_numS {i : Int} (h : i.natAbs < 1000000000) : intText? (numS i) = some i := by
  by_cases hi : i < 0
  · have e : (numS i).cps.toList = 45 :: TL.numL i.natAbs := by
      have := tl_numS i
      rw [itL, if_pos hi] at this
      exact this
    have := PySem.intText_neg e (TL.numL_digits _) (TL.numL_ne _) (by rw [TL.len_tl, tl_numS, itL, if_pos hi]; have := (numL_len9 h).2; show (TL.numL i.natAbs).length + 1 ≤ 4300; omega)
    rw [this, TL.numL_val]
    congr 1
    omega
  · have := TL.int_num (n := i.natAbs) (by have := (numL_len9 h).2; omega)
    have e : ((i.natAbs : Nat) : Int) = i := by omega
    rw [e] at this
    exact this
theorem not_minus0 {i : Int} : ¬ numS i = "-0" := fun h => by
  have e : TL.tl ("-0" : Str) = [45, 48] := by decide +kernel
  have h2 := congrArg TL.tl h
  rw [e, tl_numS] at h2
  by_cases hi : i < 0
  · rw [itL, if_pos hi] at h2
    exact numL_head (show 0 < i.natAbs by omega) _ _ (List.cons.inj h2).2 rfl
  · rw [itL, if_neg hi] at h2
    have := TL.numL_digits i.natAbs 45 (by rw [h2]; exact List.mem_cons_self)
    omega
/-- the word of a thing -/
def wrt : V → Str
  | .int i => numS i
  | .str z => z
  | _ => "-"
def Sml (v : V) : Prop := v = .non ∨ (∃ i : Int, v = .int i ∧ i.natAbs < 1000000000) ∨ ∃ z, v = .str z ∧ Nm z
theorem nm_signs {z : Str} (h : Nm z) : ∀ c ∈ TL.tl z, 97 ≤ c ∧ c ≤ 122 := fun c hc => by
  have := h.2.2 c hc
  revert this
  have : ∀ c ∈ letters.cps.toList, 97 ≤ c ∧ c ≤ 122 := by decide +kernel
  exact this c
theorem wrt_signs {v : V} (h : Sml v) : ∀ c ∈ TL.tl (wrt v), c = 45 ∨ (48 ≤ c ∧ c ≤ 57) ∨ (97 ≤ c ∧ c ≤ 122) := fun c hc => by
  rcases h with rfl | ⟨i, rfl, _⟩ | ⟨z, rfl, n⟩
  · have e : TL.tl ("-" : Str) = [45] := by decide +kernel
    have hc : c ∈ TL.tl ("-" : Str) := hc
    rw [e] at hc
    exact .inl (List.mem_singleton.1 hc)
  · have hc : c ∈ TL.tl (numS i) := hc
    rw [tl_numS, itL] at hc
    by_cases hi : i < 0
    · rw [if_pos hi] at hc
      rcases List.mem_cons.1 hc with e | e
      · exact .inl e
      · exact .inr (.inl (TL.numL_digits _ c e))
    · rw [if_neg hi] at hc
      exact .inr (.inl (TL.numL_digits _ c hc))
  · exact .inr (.inr (nm_signs n c hc))
theorem wrt_len {v : V} (h : Sml v) : (wrt v).length ≤ 10 := by
  rcases h with rfl | ⟨i, rfl, l⟩ | ⟨z, rfl, n⟩
  · show ("-" : Str).length ≤ 10
    decide +kernel
  · show (numS i).length ≤ 10
    rw [TL.len_tl, tl_numS, itL]
    have := (numL_len9 l).2
    split
    · show (TL.numL i.natAbs).length + 1 ≤ 10
      omega
    · omega
  · exact Nat.le_trans n.2.1 (by decide)
/-- joined words, split again -/
theorem words_back {vs : List V} (h : ∀ v ∈ vs, Sml v) (ne : vs ≠ []) : Txt.split (Txt.join " " (vs.map wrt)) " " = vs.map wrt := by
  refine TL.split_join (y := " ") (s := 32) (S := []) (by decide +kernel) (by decide +kernel) (fun e => ne (List.map_eq_nil_iff.1 e)) fun p hp => ?_
  obtain ⟨v, hv, rfl⟩ := List.mem_map.1 hp
  intro hc
  have := wrt_signs (h v hv) 32 hc
  omega
theorem join_len (y : Str) : ∀ ps : List Str, (∀ p ∈ ps, p.length ≤ 10) → (Txt.join y ps).length ≤ ps.length * (10 + y.length)
  | [], _ => by
    rw [TL.join_eq, TL.len_tl, TL.tl_join]
    exact Nat.zero_le _
  | [p], h => by
    have := h p List.mem_cons_self
    rw [TL.join_eq]
    show p.length ≤ 1 * (10 + y.length)
    omega
  | p :: q :: r, h => by
    have h1 := h p List.mem_cons_self
    have h2 := join_len y (q :: r) fun z hz => h z (List.mem_cons_of_mem _ hz)
    rw [TL.join_eq] at h2 ⊢
    have e : (Str.join y (p :: q :: r)).length = p.length + (y.length + (Str.join y (q :: r)).length) := by
      rw [TL.len_tl, TL.tl_join]
      show (TL.tl p ++ (TL.tl y ++ TL.joinL (TL.tl y) (((q :: r).map TL.tl)))).length = _
      rw [List.length_append, List.length_append, ← TL.tl_join, ← TL.len_tl, ← TL.len_tl, ← TL.len_tl]
    rw [e]
    have : (p :: q :: r).length * (10 + y.length) = (q :: r).length * (10 + y.length) + (10 + y.length) := by
      rw [List.length_cons, Nat.succ_mul]
    omega
theorem join_mem (y : Str) : ∀ (ps : List Str) (c : Nat), c ∈ TL.tl (Txt.join y ps) → c ∈ TL.tl y ∨ ∃ p ∈ ps, c ∈ TL.tl p
  | [], c, h => by
    rw [TL.join_eq, TL.tl_join] at h
    exact absurd h List.not_mem_nil
  | [p], c, h => by
    rw [TL.join_eq, TL.tl_join] at h
    exact .inr ⟨p, List.mem_cons_self, h⟩
  | p :: q :: r, c, h => by
    rw [TL.join_eq, TL.tl_join] at h
    have h : c ∈ TL.tl p ++ (TL.tl y ++ TL.joinL (TL.tl y) (((q :: r).map TL.tl))) := h
    rcases List.mem_append.1 h with h | h
    · exact .inr ⟨p, List.mem_cons_self, h⟩
    · rcases List.mem_append.1 h with h | h
      · exact .inl h
      · rw [← TL.tl_join, ← TL.join_eq] at h
        exact (join_mem y (q :: r) c h).imp id fun ⟨z, hz, hc⟩ => ⟨z, List.mem_cons_of_mem _ hz, hc⟩
end Tw

set_option maxHeartbeats 4000000
namespace Tw
open PySem PySem.Spec PyProof.Rows L2
/-! figures.py: numbers and None as they stand in texts -/
section
variable {P : Program} {w : World} {K : PySem.W.Frag} {mg : Str → Option Value} {base : Heap}
theorem small_log {i : Int} (h : i.natAbs < 1000000000) : i.natAbs.log2 < 1920 := by
  by_cases z : i.natAbs = 0
  · rw [z]
    decide
  · exact Nat.lt_trans ((Nat.log2_lt z).2 (show i.natAbs < 2 ^ 30 from Nat.lt_trans h (by decide))) (by decide)
def sp_written : Sp := fun vs H Q _ => ∃ v : V, vs = [v] ∧ Sml v ∧ Q (.str (wrt v)) H
theorem cal_written (T : Tp K mg) : Cal P w K mg base 1 "written" sp_written := by
  obtain ⟨fd, F⟩ := f_written T
  refine cal_of F (g_written T) (b_written F) sc_written (fun vs H Q E h => ?_) (fun cdv A outer s H vs Q E hr h => ?_)
  · obtain ⟨v, rfl, _⟩ := h
    rfl
  · obtain ⟨v, rfl, sm, q⟩ := h
    refine ⟨_, (pss_one (ps_ret (pe_ifExp (pt_cmpR op_isN (pv 0) pe_non (nomark _)) (C8.pe_gc (by rfl) (c_NONE T)) (pe_callTy (call_str_int.or SkE.call_str_str) (by rfl) (z_str T) bb_str (pa_cons (pv 0) pa_nil))))), ?_⟩
    rcases sm with rfl | ⟨i, rfl, l⟩ | ⟨z, rfl, n⟩
    · exact ⟨_, rfl, rfl, _, rfl, iteT q⟩
    · exact ⟨_, rfl, rfl, _, rfl, iteF ⟨_, rfl, .inl ⟨i, rfl, small_log l, q⟩⟩⟩
    · exact ⟨_, rfl, rfl, _, rfl, iteF ⟨_, rfl, .inr ⟨z, rfl, q⟩⟩⟩
/-! ### numbers read -/
def figS (n : Nat) : Str := ⟨(TL.numL n).toArray⟩
theorem fig_len (n : Nat) : (figS n).length = (TL.numL n).length := by
  rw [TL.len_tl]
  rfl
theorem fig_signs : ∀ c, 48 ≤ c ∧ c ≤ 57 → c ∈ ("0123456789" : Str).cps.toList := by
  have : ∀ c < 58, 48 ≤ c → c ∈ ("0123456789" : Str).cps.toList := by decide +kernel
  exact fun c h => this c (by omega) h.1
def sp_isfig : Sp := fun vs H Q _ => ∃ n : Nat, vs = [.str (figS n)] ∧ n < 1000000000 ∧ ∀ H', Same H H' → Q (.bl true) H'
theorem cal_is_figures (T : Tp K mg) : Cal P w K mg base 2 "is_figures" sp_isfig := by
  obtain ⟨fd, F⟩ := f_is_figures T
  refine cal_of F (g_is_figures T) (b_is_figures F) sc_is_figures (fun vs H Q E h => ?_) (fun cdv A outer s H vs Q E hr h => ?_)
  · obtain ⟨n, rfl, _⟩ := h
    rfl
  · obtain ⟨n, rfl, hn, q⟩ := h
    obtain ⟨l1, l2⟩ := numL_len9 hn
    have lf := fig_len n
    refine ⟨_, (pss_cons (ps_if (PW.pt (pw_or (pt_not (pt_chain op_le op_le pe_int (pe_callB call_len_str (by rfl) (z_len T) bb_len (pa_cons (pv 0) pa_nil)) (C8.pe_gc (by rfl) (c_MOST_FIGURES T)))) (pw_or1 (PW.pt (pw_and (pt_cmpR op_eq (pe_ix ix_str (pv 0) pe_int (fun _ _ => rfl)) pe_str (nomark _)) (pw_and1 (pt_cmpR op_ne (pv 0) pe_str (nomark _)))))))) (pss_one (ps_ret pe_bl)) pss_nil)
      (pss_one (ps_ret (pe_callB (cr_all rfl) (by rfl) (z_all T) bb_all (pa_cons (pe_lc (own := [("sign", 1)]) (g := gName 1) (tt := tYes) rfl sc_is_figures.nd (pi_str (pv 0)) (blkOk_by (N := N_is_figures) (sc := defScope s_is_figures) (by decide +kernel)) (fun _ _ _ _ _ => (pg_name (i := 1) sc_is_figures.nd rfl (.inl rfl))) (fun _ _ _ _ _ => pts_nil) (fun _ _ _ _ _ => (pe_cmpR op_in_sign (pv 1) (C8.pe_gc (by rfl) (c_FIGURES T)) (by rfl)))) pa_nil))))), ?_⟩
    refine ⟨_, rfl, _, rfl, Nat.le_of_lt (small1000 (by omega)), _, _, rfl, rfl, _, rfl, ?_⟩
    rw [decide_eq_true (show (1 : Int) ≤ ((figS n).length : Int) by omega)]
    refine iteT ⟨_, _, rfl, rfl, _, rfl, ?_⟩
    rw [decide_eq_true (show ((figS n).length : Int) ≤ 9 by omega)]
    refine iteF ?_
    obtain ⟨c, r, e⟩ : ∃ c r, TL.numL n = c :: r := by
      cases h : TL.numL n with
      | nil => exact absurd h (TL.numL_ne n)
      | cons c r => exact ⟨c, r, rfl⟩
    have e0 : (⟨#[c]⟩ : Str) = "0" ↔ c = 48 := by
      have e1 : ("0" : Str) = ⟨#[48]⟩ := by decide +kernel
      rw [e1]
      constructor
      · intro z
        injection z with z
        have := congrArg Array.toList z
        exact (List.cons.inj this).1
      · rintro rfl
        rfl
    have e2 : figS n = "0" ↔ c = 48 := by
      constructor
      · intro z
        have h1 : TL.tl (figS n) = c :: r := e
        rw [z, show TL.tl ("0" : Str) = [48] by decide +kernel] at h1
        exact (List.cons.inj h1).1.symm
      · rintro rfl
        have n0 : n = 0 := by
          cases n with
          | zero => rfl
          | succ m => exact absurd rfl (numL_head (Nat.succ_pos m) _ _ e)
        subst n0
        decide +kernel
    refine ⟨_, rfl, figS n, 0, c, rfl, rfl, Nat.le_of_lt (small1000 (by omega)), atI_nat (j := 0) (by show (TL.numL n)[0]? = some c; rw [e]; rfl), rfl, _, rfl, ?_⟩
    have hz : (figS n).cps.toList = TL.numL n := rfl
    by_cases c48 : c = 48
    · rw [decide_eq_true (show V.str (⟨#[c]⟩ : Str) = V.str "0" from congrArg V.str (e0.2 c48))]
      refine iteT ⟨_, rfl, rfl, _, rfl, ?_⟩
      rw [decide_eq_true (show V.str (figS n) = V.str "0" from congrArg V.str (e2.2 c48))]
      refine iteF ?_
      refine ⟨_, rfl, _, rfl, fun D nD => ?_⟩
      refine lc_it walk_str (fun i H1 => Same H H1 ∧ H1 D = some (.lst ((List.replicate i true).map V.bl))) ⟨same_upd nD, upd_same⟩ (fun _ _ _ _ => trivial) ?_ ?_
      · rintro i x H1 H2 hi ⟨s1, d1⟩ ⟨rfl, d, hd, rfl⟩
        have hd' : (TL.numL n)[i]? = some d := by
          rw [← hz, Array.getElem?_toList]
          exact hd
        have dg := TL.numL_digits n d (List.mem_of_getElem? hd')
        have hi' : i < (TL.numL n).length := (List.getElem?_eq_some_iff.mp hd').1
        refine ⟨rfl, yes_i (iteT ?_)⟩
        refine ⟨_, rfl, d, _, rfl, rfl, ?_⟩
        rw [decide_eq_true (fig_signs d dg)]
        refine ⟨_, d1, ?_, ?_, ?_⟩
        · rw [List.length_map, List.length_replicate]
          exact small1000 (by omega)
        · exact same_put s1 nD
        · rw [upd_same, List.replicate_succ', List.map_append]
          rfl
      · rintro H1 ⟨s1, d1⟩
        refine ⟨D, List.replicate (figS n).cps.size true, rfl, .inl (.inl d1), ?_⟩
        rw [show (List.replicate (figS n).cps.size true).all id = true by simp]
        exact q H1 s1
    · rw [decide_eq_false (show ¬ V.str (⟨#[c]⟩ : Str) = V.str "0" from fun z => c48 (e0.1 (V.str.inj z)))]
      refine iteF ?_
      refine ⟨_, rfl, _, rfl, fun D nD => ?_⟩
      refine lc_it walk_str (fun i H1 => Same H H1 ∧ H1 D = some (.lst ((List.replicate i true).map V.bl))) ⟨same_upd nD, upd_same⟩ (fun _ _ _ _ => trivial) ?_ ?_
      · rintro i x H1 H2 hi ⟨s1, d1⟩ ⟨rfl, d, hd, rfl⟩
        have hd' : (TL.numL n)[i]? = some d := by
          rw [← hz, Array.getElem?_toList]
          exact hd
        have dg := TL.numL_digits n d (List.mem_of_getElem? hd')
        have hi' : i < (TL.numL n).length := (List.getElem?_eq_some_iff.mp hd').1
        refine ⟨rfl, yes_i (iteT ?_)⟩
        refine ⟨_, rfl, d, _, rfl, rfl, ?_⟩
        rw [decide_eq_true (fig_signs d dg)]
        refine ⟨_, d1, ?_, ?_, ?_⟩
        · rw [List.length_map, List.length_replicate]
          exact small1000 (by omega)
        · exact same_put s1 nD
        · rw [upd_same, List.replicate_succ', List.map_append]
          rfl
      · rintro H1 ⟨s1, d1⟩
        refine ⟨D, List.replicate (figS n).cps.size true, rfl, .inl (.inl d1), ?_⟩
        rw [show (List.replicate (figS n).cps.size true).all id = true by simp]
        exact q H1 s1
theorem not_minus {i : Int} : ¬ numS i = "-" := fun h => by
  have e : TL.tl ("-" : Str) = [45] := by decide +kernel
  have h2 := congrArg TL.tl h
  rw [e, tl_numS] at h2
  by_cases hi : i < 0
  · rw [itL, if_pos hi] at h2
    exact TL.numL_ne _ (List.cons.inj h2).2
  · rw [itL, if_neg hi] at h2
    have := TL.numL_digits i.natAbs 45 (by rw [h2]; exact List.mem_cons_self)
    omega
theorem numS_len {i : Int} (h : i.natAbs < 1000000000) : (numS i).length ≤ 10 := wrt_len (v := .int i) (.inr (.inl ⟨i, rfl, h⟩))
def sp_rnum : Sp := fun vs H Q _ => ∃ i : Int, vs = [.str (numS i)] ∧ i.natAbs < 1000000000 ∧ ∀ H', Same H H' → Q (.int i) H'
theorem cal_read_numberC (T : Tp K mg) (c : Nat) : Cal P w K mg base (c + 4) "read_number" sp_rnum := by
  obtain ⟨fd, F⟩ := f_read_number T
  refine cal_of F (g_read_number T) (b_read_number F) sc_read_number (fun vs H Q E h => ?_) (fun cdv A outer s H vs Q E hr h => ?_)
  · obtain ⟨i, rfl, _⟩ := h
    rfl
  · obtain ⟨i, rfl, hi, q⟩ := h
    refine ⟨_, (pss_cons (ps_set (i := 1) sc_read_number.nd rfl (.inl rfl) (pe_bm PySem.F.plainAttrs_str PySem.F.slot_str_removeprefix PySem.F.type_str_removeprefix mt_removeprefix (pv 0) (pa_cons pe_str pa_nil)))
      (pss_cons (ps_if (PW.pt (pw_or (pt_not (pt_val (C8.pe_c (cal_is_figures T) hr (by omega) rfl (pa_cons (pv 1) pa_nil)))) (pw_or1 (pt_cmpR op_eq (pv 0) pe_str (nomark _))))) (pss_one ps_never) pss_nil)
      (pss_one (ps_ret (pe_callTy call_int_str (by rfl) (z_int T) bb_int (pa_cons (pv 0) pa_nil)))))), ?_⟩
    have l := numS_len hi
    refine ⟨_, rfl, rfl, _, _, rfl, rfl, Nat.le_of_lt (small1000 (by omega)), ?_⟩
    rw [figures_of]
    refine ⟨_, rfl, i.natAbs, rfl, hi, fun H1 s1 => ⟨_, rfl, iteF ⟨_, rfl, rfl, _, rfl, ?_⟩⟩⟩
    rw [decide_eq_false (show ¬ V.str (numS i) = V.str "-0" from fun z => not_minus0 (V.str.inj z))]
    exact iteF ⟨_, rfl, numS i, i, rfl, int_numS hi, by omega, q H1 s1⟩
theorem cal_read_number (T : Tp K mg) : Cal P w K mg base 4 "read_number" sp_rnum := cal_read_numberC T 0
def sp_rbnd : Sp := fun vs H Q _ => ∃ v : V, vs = [.str (wrt v)] ∧ (v = .non ∨ ∃ i : Int, v = .int i ∧ i.natAbs < 1000000000) ∧ ∀ H', Same H H' → Q v H'
theorem cal_read_bound (T : Tp K mg) : Cal P w K mg base 5 "read_bound" sp_rbnd := by
  obtain ⟨fd, F⟩ := f_read_bound T
  refine cal_of F (g_read_bound T) (b_read_bound F) sc_read_bound (fun vs H Q E h => ?_) (fun cdv A outer s H vs Q E hr h => ?_)
  · obtain ⟨v, rfl, _⟩ := h
    rfl
  · obtain ⟨v, rfl, hv, q⟩ := h
    refine ⟨_, (pss_cons (ps_if (pt_cmpR op_eq (pv 0) (C8.pe_gc (by rfl) (c_NONE T)) (nomark _)) (pss_one (ps_ret pe_non)) pss_nil)
      (pss_one (ps_ret (C8.pe_c (cal_read_number T) hr (by decide) rfl (pa_cons (pv 0) pa_nil))))), ?_⟩
    refine ⟨_, rfl, rfl, _, rfl, ?_⟩
    rcases hv with rfl | ⟨i, rfl, hi⟩
    · rw [decide_eq_true (show V.str (wrt .non) = V.str "-" from rfl)]
      exact iteT (q H (Same.refl _))
    · rw [decide_eq_false (show ¬ V.str (wrt (.int i)) = V.str "-" from fun z => not_minus (V.str.inj z))]
      exact iteF ⟨_, rfl, i, rfl, hi, fun H1 s1 => q H1 s1⟩
end
end Tw

set_option maxHeartbeats 4000000
/-! d[k] of such a dict, k None or a text -/
namespace Tw
open PySem PySem.Spec PyProof.Rows L2
def nkV : Option Str → V
  | none => .non
  | some x => .str x
/-- the value at k -/
def NAt (K : PySem.W.Frag) (es : Array DictEntry) (k : Option Str) (r : V) : Prop := ∃ u, findBy nkIs es (k.map .inr) = some u ∧ RelV r u
theorem nkV_is (P : Program) (w : World) {k : Option Str} {v : Value} (h : RelV (nkV k) v) : nkIs (k.map .inr) v = true := by
  cases k with
  | none =>
    cases v with
    | none => rfl
    | _ => cases h
  | some x =>
    obtain ⟨t, rfl⟩ := (show ∃ t, v = Value.str x t from h)
    exact mixKind_str P w x t
section
variable {X : Cx}
theorem ix_nd {d : Addr} {es : Array DictEntry} {n : Nat} (D : NDict X.K X.w d es n) : IxR X (fun x y H Q => ∃ k r, x = .ref d ∧ y = nkV k ∧ NAt X.K es k r ∧ Q r H) := by
  intro value slice pins s σ H x y v u Q I rx ry h hs
  obtain ⟨k, r, rfl, rfl, ⟨w0, e, rw0⟩, q⟩ := h
  obtain rfl : v = Value.ref d := rx
  have hm : s.heap.MapOf (noneKind X.prog X.w) d (fun k => findBy nkIs es k) := ⟨_, es, n, I.kIn _ _ D.at_, ⟨rfl, rfl, rfl⟩, rfl, fun e he => by
    obtain ⟨k, h1, h2⟩ := D.ok e (Array.mem_toList_iff.mpr he)
    exact ⟨k, h1, h2⟩, fun _ => rfl⟩
  exact tail_any hm.typeIs slot_dict_getitem.lookup (wpAny_getItem_of (show (noneKind X.prog X.w).is (k.map .inr) u = true from nkV_is X.prog X.w ry) hm e ⟨r, H, I.tok _, rw0, q⟩) hs
end
theorem nat_none {K : PySem.W.Frag} {w : World} {d : Addr} {es : Array DictEntry} {n : Nat} {xs : List Str} (D : NDict K w d es n) (h : nonB K d xs = true) : ∃ a, NAt K es none (.ref a) ∧ ∀ H, SqT K H a (xs.map V.str) := by
  obtain ⟨e, r, a, q1, q2, q3, q4, sq⟩ := nonB_ok h D.at_
  refine ⟨a, ⟨.ref a, ?_, rfl⟩, sq⟩
  unfold findBy
  obtain ⟨l⟩ := es
  have q1 : l = e :: r := q1
  subst q1
  rw [List.find?_toArray, List.find?_cons, show nkIs (Option.map Sum.inr (none : Option Str)) e.key = true by rw [q2]; rfl]
  exact congrArg some q4
theorem isStr_nk (x : Str) (v : Value) : nkIs (some (.inr x)) v = Value.isStrOf x v := by
  cases v <;> rfl
theorem nat_some {K : PySem.W.Frag} {w : World} {d : Addr} {es : Array DictEntry} {n : Nat} {x : Str} {xs : List Str} (D : NDict K w d es n) (h : frxB K d x xs = true) : ∃ a, NAt K es (some x) (.ref a) ∧ ∀ H, SqT K H a (xs.map V.str) := by
  obtain ⟨a, e, sq⟩ := frx_ok h
  refine ⟨a, ⟨.ref a, ?_, rfl⟩, sq⟩
  have f := PySem.W.find_K D.at_ e
  unfold findBy at f ⊢
  rw [← f]
  have : (fun e' : DictEntry => nkIs (Option.map Sum.inr (some x)) e'.key) = fun e' => Value.isStrOf x e'.key := funext fun e' => isStr_nk x e'.key
  rw [this]
end Tw

set_option maxHeartbeats 4000000
namespace Tw
open PySem PySem.Spec PyProof.Rows L2
/-! figures.py, and deeds as texts -/
section
variable {P : Program} {w : World} {K : PySem.W.Frag} {mg : Str → Option Value} {base : Heap}
/-! ### the words of a deed -/
def Dd.line (x : Dd) : Str := Txt.join " " (x.row.map wrt)
/-- what may stand in a text -/
def Dd.Tx : Dd → Prop
  | .las l => l.natAbs < 1000000000
  | .mom z => Nm z
  | .span y => Nm y.en ∧ Nm y.bg ∧ y.lo.natAbs < 1000000000 ∧ y.hi.natAbs < 1000000000 ∧ ∀ i, y.la = some i → i.natAbs < 1000000000
  | .tie y => Nm y.one ∧ Nm y.oth ∧ (∀ i, y.bot = some i → i.natAbs < 1000000000) ∧ ∀ i, y.top = some i → i.natAbs < 1000000000
  | .unt i => i.natAbs < 1000000000
  | .wo z => Nm z
def Dd.kinds : Dd → List Str
  | .las _ => ["number"]
  | .mom _ => ["name"]
  | .span _ => ["name", "name", "number", "number", "bound"]
  | .tie _ => ["name", "name", "bound", "bound"]
  | .unt _ => ["number"]
  | .wo _ => ["name"]
/-- what words of this kind may be -/
def KdO (k : Str) (v : V) : Prop := (k = "number" ∧ ∃ i : Int, v = .int i ∧ i.natAbs < 1000000000) ∨ (k = "bound" ∧ (v = .non ∨ ∃ i : Int, v = .int i ∧ i.natAbs < 1000000000)) ∨ (k = "name" ∧ ∃ z, v = .str z ∧ Nm z)
theorem KdO.sml {k : Str} {v : V} (h : KdO k v) : Sml v := by
  rcases h with ⟨_, h⟩ | ⟨_, h | h⟩ | ⟨_, h⟩
  · exact .inr (.inl h)
  · exact .inl h
  · exact .inr (.inl h)
  · exact .inr (.inr h)
theorem kd_num {i : Int} (h : i.natAbs < 1000000000) : KdO "number" (.int i) := .inl ⟨rfl, i, rfl, h⟩
theorem kd_name {z : Str} (h : Nm z) : KdO "name" (.str z) := .inr (.inr ⟨rfl, z, rfl, h⟩)
theorem kd_bound {o : Option Int} (h : ∀ i, o = some i → i.natAbs < 1000000000) : KdO "bound" (oV o) := by
  cases o with
  | none => exact .inr (.inl ⟨rfl, .inl rfl⟩)
  | some i => exact .inr (.inl ⟨rfl, .inr ⟨i, rfl, h i rfl⟩⟩)
theorem Dd.Tx.rest {x : Dd} (h : x.Tx) : Paired KdO x.kinds x.rest := by
  cases x with
  | las l => exact .cons (kd_num h) .nil
  | mom z => exact .cons (kd_name h) .nil
  | span y => exact .cons (kd_name h.1) (.cons (kd_name h.2.1) (.cons (kd_num h.2.2.1) (.cons (kd_num h.2.2.2.1) (.cons (kd_bound h.2.2.2.2) .nil))))
  | tie y => exact .cons (kd_name h.1) (.cons (kd_name h.2.1) (.cons (kd_bound h.2.2.1) (.cons (kd_bound h.2.2.2) .nil)))
  | unt i => exact .cons (kd_num h) .nil
  | wo z => exact .cons (kd_name h) .nil
theorem paired_all {α β : Type} {F : α → β → Prop} {G : β → Prop} (f : ∀ a b, F a b → G b) : ∀ {l : List α} {m : List β}, Paired F l m → ∀ b ∈ m, G b
  | _, _, .nil, b, h => absurd h List.not_mem_nil
  | _, _, .cons h t, b, hb => by
    rcases List.mem_cons.1 hb with e | e
    · rw [e]
      exact f _ _ h
    · exact paired_all f t b e
theorem word_nm (x : Dd) : Nm x.word := by
  have e : x.word ∈ (["by", "moment", "span", "tie", "untie", "without"] : List Str) := by
    cases x <;> simp [Dd.word]
  have a : (["by", "moment", "span", "tie", "untie", "without"] : List Str).all nmB = true := by decide +kernel
  exact nmB_ok.1 (List.all_eq_true.1 a _ e)
theorem Dd.Tx.row {x : Dd} (h : x.Tx) : ∀ v ∈ x.row, Sml v := fun v hv => by
  rcases List.mem_cons.1 hv with e | e
  · rw [e]
    exact .inr (.inr ⟨_, rfl, word_nm x⟩)
  · exact paired_all (fun _ _ k => KdO.sml k) h.rest v e
theorem row_few (x : Dd) : x.row.length ≤ 6 := by
  cases x <;> exact Nat.le_of_ble_eq_true rfl
theorem sum_len {ps : List Str} (h : ∀ p ∈ ps, p.length ≤ 10) : (ps.map (·.length)).sum ≤ ps.length * 10 := by
  induction ps with
  | nil => exact Nat.le_refl _
  | cons p r ih =>
    have h1 := h p List.mem_cons_self
    have h2 := ih fun z hz => h z (List.mem_cons_of_mem _ hz)
    rw [List.map_cons, List.sum_cons, List.length_cons, Nat.succ_mul]
    omega
theorem line_len {x : Dd} (h : x.Tx) : x.line.length ≤ 66 := by
  have := join_len " " (x.row.map wrt) fun p hp => by
    obtain ⟨v, hv, rfl⟩ := List.mem_map.1 hp
    exact wrt_len (h.row v hv)
  rw [List.length_map, show (" " : Str).length = 1 by decide +kernel] at this
  have l := row_few x
  exact Nat.le_trans this (by omega)
def sp_wdeed : Sp := fun vs H Q _ => ∃ (t : Addr) (x : Dd), vs = [.ref t] ∧ H t = some (.tup x.row) ∧ x.Tx ∧ ∀ H', Same H H' → Q (.str x.line) H'
theorem cal_write_deed (T : Tp K mg) : Cal P w K mg base 2 "write_deed" sp_wdeed := by
  obtain ⟨fd, F⟩ := f_write_deed T
  refine cal_of F (g_write_deed T) (b_write_deed F) sc_write_deed (fun vs H Q E h => ?_) (fun cdv A outer s H vs Q E hr h => ?_)
  · obtain ⟨t, x, rfl, _⟩ := h
    rfl
  · obtain ⟨t, x, rfl, ht, tx, q⟩ := h
    refine ⟨_, (pss_one (ps_ret (pe_bm PySem.F.plainAttrs_str PySem.F.slot_str_join PySem.F.type_str_join mt_join pe_str (pa_cons (pe_lc (own := [("thing", 1)]) (g := gName 1) (tt := tYes) rfl sc_write_deed.nd (pi_tup (pv 0)) (blkOk_by (N := N_write_deed) (sc := defScope s_write_deed) (by decide +kernel)) (fun _ _ _ _ _ => (pg_name (i := 1) sc_write_deed.nd rfl (.inl rfl))) (fun _ _ _ _ _ => pts_nil) (fun _ _ _ _ _ => (C8.pe_c (cal_written T) hr (by decide) rfl (pa_cons (pv 1) pa_nil)))) pa_nil)))), ?_⟩
    refine ⟨rfl, _, rfl, t, rfl, ⟨_, .inl (.inl ht)⟩, fun D nD => ?_⟩
    refine lc_pure x.row (walk_tup (K := K) (a := t) (xs := x.row)) (fun v => some (wrt v)) (SV V.str) (fun _ h => h) nD (Nat.le_trans (row_few x) (by decide)) (fun H' s => .inl (.inl (s _ _ ht))) ?_ ?_
    · rintro i v u H1 H2 hv s1 ⟨rfl, hu⟩ Good Bad kt kf
      rw [hv] at hu
      cases hu
      exact ⟨rfl, yes_i (iteT ⟨_, rfl, v, rfl, tx.row v (List.mem_of_getElem? hv), kt _ _ _ rfl (Same.refl _) rfl⟩)⟩
    · intro H1 acc s1 d1 p1
      have ea := paired_enc p1
      rw [show x.row.filterMap (fun v => some (wrt v)) = x.row.map wrt from List.filterMap_eq_map ▸ rfl] at ea
      subst ea
      refine ⟨" ", D, x.row.map wrt, rfl, rfl, .inl (.inl (.inl d1)), ?_, q H1 s1⟩
      have := sum_len (ps := x.row.map wrt) fun p hp => by
        obtain ⟨v, hv, rfl⟩ := List.mem_map.1 hp
        exact wrt_len (tx.row v hv)
      rw [List.length_map] at this
      have l := row_few x
      rw [List.length_map, show (" " : Str).length = 1 by decide +kernel]
      omega
def sp_rnam : Sp := fun vs H Q _ => ∃ z : Str, vs = [.str z] ∧ Nm z ∧ ∀ H', Same H H' → Q (.str z) H'
theorem cal_read_name (T : Tp K mg) : Cal P w K mg base 5 "read_name" sp_rnam := by
  obtain ⟨fd, F⟩ := f_read_name T
  refine cal_of F (g_read_name T) (b_read_name F) sc_read_name (fun vs H Q E h => ?_) (fun cdv A outer s H vs Q E hr h => ?_)
  · obtain ⟨z, rfl, _⟩ := h
    rfl
  · obtain ⟨z, rfl, hz, q⟩ := h
    refine ⟨_, (pss_cons (ps_if (pt_not (pt_val (C8.pe_c (cal_is_name T) hr (by decide) rfl (pa_cons (pv 0) pa_nil)))) (pss_one ps_never) pss_nil)
      (pss_one (ps_ret (pv 0)))), ?_⟩
    exact ⟨_, rfl, z, rfl, hz, fun H1 s1 => ⟨_, rfl, iteF ⟨_, rfl, q H1 s1⟩⟩⟩
/-! ### a word read by its kind -/
abbrev TboX (w : World) (K : PySem.W.Frag) : Prop := ∀ t ∈ tb, He.dicW K (t.1 K) = some (He.keysIn w.params t.2)
def onR (f g : Addr) (sp : Sp) : Option Sp := if f = g then some sp else none
theorem onR_at {f : Addr} {sp : Sp} : onR f f sp = some sp := if_pos rfl
theorem onR_of {f g : Addr} {sp sp' : Sp} (e : onR f g sp = some sp') : f = g ∧ sp = sp' := by
  unfold onR at e
  by_cases c : f = g
  · rw [if_pos c] at e
    exact ⟨c, Option.some.inj e⟩
  · rw [if_neg c] at e
    cases e
def SRd (K : PySem.W.Frag) (z : Str) (f : Addr) : Option Sp := if z = "number" then onR f (He.ga K "read_number") sp_rnum else if z = "bound" then onR f (He.ga K "read_bound") sp_rbnd else onR f (He.ga K "read_name") sp_rnam
theorem held_R {x : Str} {k : Nat} {sp : Sp} {f : Addr} (c : Cal P w K mg base k x sp) (g : mg x = some (.ref f)) : Held P w K mg base k f sp := by
  obtain ⟨f', fd, ps, ds, F, at_, kp, b, dv⟩ := c.ex
  rw [g] at at_
  cases at_
  cases dv
  exact ⟨fd, ps, F, kp, b⟩
theorem heldR (T : Tp K mg) (z : Str) : ∀ f sp, SRd K z f = some sp → Held P w K mg base 5 f sp := fun f sp e => by
  unfold SRd at e
  by_cases c1 : z = "number"
  · rw [if_pos c1] at e
    obtain ⟨rfl, rfl⟩ := onR_of e
    exact held_R (cal_read_numberC T 1) (g_read_number T)
  · rw [if_neg c1] at e
    by_cases c2 : z = "bound"
    · rw [if_pos c2] at e
      obtain ⟨rfl, rfl⟩ := onR_of e
      exact held_R (cal_read_bound T) (g_read_bound T)
    · rw [if_neg c2] at e
      obtain ⟨rfl, rfl⟩ := onR_of e
      exact held_R (cal_read_name T) (g_read_name T)
def sp_rword : Sp := fun vs H Q _ => ∃ (k : Str) (v : V), vs = [.str k, .str (wrt v)] ∧ KdO k v ∧ ∀ H', Same H H' → Q v H'
theorem cal_read_word (T : Tp K mg) (TO : TboX w K) : Cal P w K mg base 6 "read_word" sp_rword := by
  obtain ⟨fd, F⟩ := f_read_word T
  refine cal_of F (g_read_word T) (b_read_word F) sc_read_word (fun vs H Q E h => ?_) (fun cdv A outer s H vs Q E hr h => ?_)
  · obtain ⟨k, v, rfl, _⟩ := h
    rfl
  · obtain ⟨z, v, rfl, hk, q⟩ := h
    obtain ⟨es, n, DF, hks⟩ := kd_all (TO (fun K => He.ga K "READERS", ["number", "bound", "name"]) (by first | exact List.mem_cons_self | exact List.mem_cons_of_mem _ List.mem_cons_self))
    refine ⟨_, (pss_cons (ps_set (i := 2) sc_read_word.nd rfl (.inl rfl) (pe_ix ix_kdict (pe_glob (v := .ref (He.ga K "READERS")) (by rfl) (g_READERS T) rfl) (pv 0) (fun _ _ => rfl)))
      (pss_one (ps_ret (pe_callA (i := 2) (heldR T z) (hr.mono (by decide)) rfl (.inl rfl) (pa_cons (pv 1) pa_nil))))), ?_⟩
    rcases hk with ⟨rfl, i, rfl, hi⟩ | ⟨rfl, hv⟩ | ⟨rfl, y, rfl, hy⟩
    · refine ⟨_, rfl, He.ga K "READERS", _, .ref (He.ga K "read_number"), rfl, rfl, ⟨es, n, _, DF.at_, DF.lit, nt_READERS_number T, rfl⟩, ?_⟩
      exact ⟨He.ga K "read_number", sp_rnum, rfl, by unfold SRd; rw [if_pos rfl]; exact onR_at, _, rfl, i, rfl, hi, fun H1 s1 => q H1 s1⟩
    · refine ⟨_, rfl, He.ga K "READERS", _, .ref (He.ga K "read_bound"), rfl, rfl, ⟨es, n, _, DF.at_, DF.lit, nt_READERS_bound T, rfl⟩, ?_⟩
      exact ⟨He.ga K "read_bound", sp_rbnd, rfl, by unfold SRd; rw [if_neg (by decide +kernel), if_pos rfl]; exact onR_at, _, rfl, v, rfl, hv, fun H1 s1 => q H1 s1⟩
    · refine ⟨_, rfl, He.ga K "READERS", _, .ref (He.ga K "read_name"), rfl, rfl, ⟨es, n, _, DF.at_, DF.lit, nt_READERS_name T, rfl⟩, ?_⟩
      exact ⟨He.ga K "read_name", sp_rnam, rfl, by unfold SRd; rw [if_neg (by decide +kernel), if_neg (by decide +kernel)]; exact onR_at, _, rfl, y, rfl, hy, fun H1 s1 => q H1 s1⟩
/-! ### the words of a deed read -/
theorem paired_nth {α β : Type} {F : α → β → Prop} : ∀ {l : List α} {m : List β} {i : Nat} {b : β}, Paired F l m → m[i]? = some b → ∃ a, l[i]? = some a ∧ F a b
  | _, _, 0, _, .cons h _, e => by
    cases e
    exact ⟨_, rfl, h⟩
  | _, _, i + 1, b, .cons _ t, e => by
    obtain ⟨a, h1, h2⟩ := paired_nth (i := i) t e
    exact ⟨a, h1, h2⟩
def sp_rwords : Sp := fun vs H Q _ => ∃ (a p : Addr) (ks : List Str) (ws : List V), vs = [.ref a, .ref p] ∧ (∀ H1, Same H H1 → SqT K H1 a (ks.map V.str)) ∧ H p = some (.lst (ws.map fun v => V.str (wrt v))) ∧ Paired KdO ks ws ∧ ks.length ≤ 10 ∧ ∀ D H', Same H H' → H D = none → H' D = some (.lst ws) → Q (.ref D) H'
theorem cal_read_words (T : Tp K mg) (TO : TboX w K) : Cal P w K mg base 7 "read_words" (sp_rwords (K := K)) := by
  obtain ⟨fd, F⟩ := f_read_words T
  refine cal_of F (g_read_words T) (b_read_words F) sc_read_words (fun vs H Q E h => ?_) (fun cdv A outer s H vs Q E hr h => ?_)
  · obtain ⟨a, p, ks, ws, rfl, _⟩ := h
    rfl
  · obtain ⟨a, p, ks, ws, rfl, ha, hp, kd, few, q⟩ := h
    refine ⟨_, (pss_cons (ps_if (pt_cmpR op_ne (pe_callB call_len_seq (by rfl) (z_len T) bb_len (pa_cons (pv 1) pa_nil)) (pe_callB call_len_seq (by rfl) (z_len T) bb_len (pa_cons (pv 0) pa_nil)) (nomark _)) (pss_one ps_never) pss_nil)
      (pss_one (ps_ret (pe_lc (own := [("kind", 2), ("word", 3)]) (tt := tYes) rfl sc_read_words.nd (pi_zipM (by rfl) (z_zip T) (pa_cons (pv 0) (pa_cons (pv 1) pa_nil))) (blkOk_by (N := N_read_words) (sc := defScope s_read_words) (by decide +kernel)) (fun _ _ _ _ _ => (pg_tupK (K := K) (n := 2) rfl rfl (pgs_cons (pg_name (i := 2) sc_read_words.nd rfl (.inl rfl)) (pgs_cons (pg_name (i := 3) sc_read_words.nd rfl (.inl rfl)) pgs_nil)))) (fun _ _ _ _ _ => pts_nil) (fun _ _ _ _ _ => (C8.pe_c (cal_read_word T TO) hr (by decide) rfl (pa_cons (pv 2) (pa_cons (pv 3) pa_nil)))))))), ?_⟩
    have lk := kd.length
    have l1 : (ws.map fun v => V.str (wrt v)).length = ws.length := List.length_map _
    have l2 : (ks.map V.str).length = ks.length := List.length_map _
    refine ⟨_, rfl, p, _, rfl, .inl (.inl (.inl hp)), _, rfl, a, _, rfl, .inr (ha H (Same.refl _)), rfl, _, rfl, ?_⟩
    rw [show (!decide (V.int (((ws.map fun v => V.str (wrt v)).length : Nat) : Int) = V.int (((ks.map V.str).length : Nat) : Int))) = false from by rw [decide_eq_true (congrArg V.int (by omega))]; rfl]
    refine iteF ⟨_, rfl, _, rfl, a, p, _, _, rfl, ha H (Same.refl _), .inl (.inl hp), fun D nD => ?_⟩
    refine lc_pure ws (walk_zipM (K := K) (a := a) (b := p) (xs := ks.map V.str) (ys := ws.map fun v => V.str (wrt v)) (n := ws.length) (by omega) (by omega)) (fun v => some v) (SV id) (fun _ h => h) nD (by omega) (fun H' s => ⟨ha H' s, .inl (.inl (s _ _ hp))⟩) ?_ ?_
    · rintro i v u H1 H2 hv s1 ⟨TT, x, y, rfl, nT, rfl, hx, hy⟩ Good Bad kt kf
      obtain ⟨k, hk, kk⟩ := paired_nth kd hv
      have hx : (ks.map V.str)[i]? = some x := hx
      have hy : (ws.map fun v => V.str (wrt v))[i]? = some y := hy
      rw [List.getElem?_map, hk] at hx
      rw [List.getElem?_map, hv] at hy
      cases hx
      cases hy
      have s2 := same_upd (o := .tup [.str k, .str (wrt v)]) nT
      exact ⟨TT, _, rfl, .inl (.inl upd_same), rfl, _, _, rfl, _, _, rfl, rfl, rfl, yes_i (iteT ⟨_, rfl, _, rfl, k, v, rfl, kk, fun H3 s3 => kt _ _ _ rfl (s2.trans s3) rfl⟩)⟩
    · intro H1 acc s1 d1 p1
      have ea := paired_enc p1
      rw [show ws.filterMap (fun v => some v) = ws from List.filterMap_some, List.map_id] at ea
      subst ea
      exact q D H1 s1 nD d1
theorem frm_of (T : Tp K mg) (x : Dd) : ∃ a, PySem.W.nsIn K (He.ga K "FORMS") x.word = some (some (.ref a)) ∧ ∀ H, SqT K H a (x.kinds.map V.str) := by
  cases x with
  | las l => exact frx_ok (frx_FORMS_by T)
  | mom l => exact frx_ok (frx_FORMS_moment T)
  | span l => exact frx_ok (frx_FORMS_span T)
  | tie l => exact frx_ok (frx_FORMS_tie T)
  | unt l => exact frx_ok (frx_FORMS_untie T)
  | wo l => exact frx_ok (frx_FORMS_without T)
def sp_rdeed : Sp := fun vs H Q _ => ∃ x : Dd, vs = [.str x.line] ∧ x.Tx ∧ ∀ t H', Same H H' → H t = none → H' t = some (.tup x.row) → Q (.ref t) H'
theorem cal_read_deed (T : Tp K mg) (TO : TboX w K) : Cal P w K mg base 8 "read_deed" sp_rdeed := by
  obtain ⟨fd, F⟩ := f_read_deed T
  refine cal_of F (g_read_deed T) (b_read_deed F) sc_read_deed (fun vs H Q E h => ?_) (fun cdv A outer s H vs Q E hr h => ?_)
  · obtain ⟨x, rfl, _⟩ := h
    rfl
  · obtain ⟨x, rfl, tx, q⟩ := h
    obtain ⟨es, n, DF, hks⟩ := kd_all (TO (fun K => He.ga K "FORMS", ["by", "moment", "span", "tie", "without", "untie"]) (by first | exact List.mem_cons_self | exact List.mem_cons_of_mem _ List.mem_cons_self))
    refine ⟨_, (pss_cons (ps_asg (pe_bm PySem.F.plainAttrs_str PySem.F.slot_str_split PySem.F.type_str_split mt_split (pv 0) (pa_cons pe_str pa_nil)) (pg_headL rfl (pgs_cons (pg_name (i := 1) sc_read_deed.nd rfl (.inl rfl)) (pgs_star (pg_name (i := 2) sc_read_deed.nd rfl (.inl rfl))))))
      (pss_cons (ps_if (pt_cmpR (op_notIn_kd DF) (pv 1) (pe_glob (v := .ref (He.ga K "FORMS")) (by rfl) (g_FORMS T) rfl) (by rfl)) (pss_one ps_never) pss_nil)
      (pss_cons (ps_set (i := 3) sc_read_deed.nd rfl (.inl rfl) (C8.pe_c (cal_read_words T TO) hr (by decide) rfl (pa_cons (pe_ix ix_kdict (pe_glob (v := .ref (He.ga K "FORMS")) (by rfl) (g_FORMS T) rfl) (pv 1) (fun _ _ => rfl)) (pa_cons (pv 2) pa_nil))))
      (pss_one (ps_ret (pe_tup (pa_cons (pv 1) (StX.pa_star (pv 3) pa_nil)))))))), ?_⟩
    have ll := line_len tx
    have back : Txt.split x.line " " = x.row.map wrt := words_back tx.row (by unfold Dd.row; exact fun z => nomatch z)
    have lr : x.rest.length ≤ 10 := by
      have := row_few x
      unfold Dd.row at this
      rw [List.length_cons] at this
      omega
    obtain ⟨a, hn, ha⟩ := frm_of T x
    have kd := tx.rest
    refine ⟨_, rfl, rfl, _, _, rfl, rfl, by decide +kernel, by rw [sizeLine_eq]; omega, fun p np => ?_⟩
    rw [back]
    have sp := same_upd (o := .lst ((x.row.map wrt).map V.str)) np
    refine ⟨p, .str x.word, (x.rest.map wrt).map V.str, rfl, .inl (.inl upd_same), ?_, fun D nD => ?_⟩
    · rw [List.length_map, List.length_map]
      omega
    have sD := same_upd (o := .lst ((x.rest.map wrt).map V.str)) nD
    have hD : (upd (upd H p (.lst ((x.row.map wrt).map V.str))) D (.lst ((x.rest.map wrt).map V.str))) D = some (.lst (x.rest.map fun v => V.str (wrt v))) := by
      rw [upd_same, List.map_map]
      rfl
    have s2 := sp.trans sD
    generalize upd (upd H p (.lst ((x.row.map wrt).map V.str))) D (.lst ((x.rest.map wrt).map V.str)) = H2 at hD s2 ⊢
    refine ⟨_, _, rfl, _, _, rfl, rfl, _, rfl, x.word, _, rfl, rfl, hn, _, rfl, iteF ?_⟩
    refine ⟨_, rfl, He.ga K "FORMS", x.word, .ref a, rfl, rfl, ⟨es, n, .ref a, DF.at_, DF.lit, hn, rfl⟩, _, rfl, a, D, x.kinds, x.rest, rfl, (fun H1 _ => ha H1), hD, kd, by have := kd.length; omega, fun D2 H3 s3 nD2 hD2 => ?_⟩
    refine ⟨_, rfl, _, rfl, D2, x.rest, rfl, .inr (.inl (.inl hD2)), ?_, fun t nt => ?_⟩
    · show (V.str x.word :: (x.rest ++ [])).length ≤ sizeLine
      rw [List.append_nil, List.length_cons]
      exact Nat.le_of_lt (small1000 (by omega))
    · refine q t _ ((s2.trans s3).trans (same_upd nt)) ((s2.trans s3).free nt) ?_
      rw [List.append_nil]
      exact upd_same
end
end Tw

set_option maxHeartbeats 4000000
namespace Tw
open PySem PySem.Spec PyProof.Rows L2
/-! lines of deeds, by themselves -/
theorem nl_one : ("\n" : Str).length = 1 := by decide +kernel
theorem line_signs {x : Dd} (h : x.Tx) : ∀ c ∈ TL.tl x.line, c = 32 ∨ c = 45 ∨ (48 ≤ c ∧ c ≤ 57) ∨ (97 ≤ c ∧ c ≤ 122) := fun c hc => by
  rcases join_mem " " _ c hc with e | ⟨p, hp, e⟩
  · rw [show TL.tl (" " : Str) = [32] by decide +kernel] at e
    exact .inl (List.mem_singleton.1 e)
  · obtain ⟨v, hv, rfl⟩ := List.mem_map.1 hp
    exact .inr (wrt_signs (h.row v hv) c e)
theorem lines_back {y : Str} {s : Nat} {S : List Nat} (ey : TL.tl y = s :: S) (hk : y.cps.all (· < 256) = true) (hs : s = 10 ∨ s = 59) {xs : List Dd} (h : ∀ x ∈ xs, x.Tx) (ne : xs ≠ []) : Txt.split (Txt.join y (xs.map Dd.line)) y = xs.map Dd.line := by
  refine TL.split_join ey hk (fun e => ne (List.map_eq_nil_iff.1 e)) fun p hp hc => ?_
  obtain ⟨x, hx, rfl⟩ := List.mem_map.1 hp
  have := line_signs (h x hx) s hc
  omega
theorem joinB (y : Str) (n : Nat) : ∀ ps : List Str, (∀ p ∈ ps, p.length ≤ n) → (Txt.join y ps).length ≤ ps.length * (n + y.length)
  | [], _ => by
    rw [TL.join_eq, TL.len_tl, TL.tl_join]
    exact Nat.zero_le _
  | [p], h => by
    have := h p List.mem_cons_self
    rw [TL.join_eq]
    show p.length ≤ 1 * (n + y.length)
    omega
  | p :: q :: r, h => by
    have h1 := h p List.mem_cons_self
    have h2 := joinB y n (q :: r) fun z hz => h z (List.mem_cons_of_mem _ hz)
    rw [TL.join_eq] at h2 ⊢
    have e : (Str.join y (p :: q :: r)).length = p.length + (y.length + (Str.join y (q :: r)).length) := by
      rw [TL.len_tl, TL.tl_join]
      show (TL.tl p ++ (TL.tl y ++ TL.joinL (TL.tl y) (((q :: r).map TL.tl)))).length = _
      rw [List.length_append, List.length_append, ← TL.tl_join, ← TL.len_tl, ← TL.len_tl, ← TL.len_tl]
    rw [e]
    have : (p :: q :: r).length * (n + y.length) = (q :: r).length * (n + y.length) + (n + y.length) := by
      rw [List.length_cons, Nat.succ_mul]
    omega
theorem sumB (n : Nat) {ps : List Str} (h : ∀ p ∈ ps, p.length ≤ n) : (ps.map (·.length)).sum ≤ ps.length * n := by
  induction ps with
  | nil => exact Nat.zero_le _
  | cons p r ih =>
    have h1 := h p List.mem_cons_self
    have h2 := ih fun z hz => h z (List.mem_cons_of_mem _ hz)
    rw [List.map_cons, List.sum_cons, List.length_cons, Nat.succ_mul]
    omega
theorem lines_len {xs : List Dd} (h : ∀ x ∈ xs, x.Tx) : ∀ p ∈ xs.map Dd.line, p.length ≤ 66 := fun p hp => by
  obtain ⟨x, hx, rfl⟩ := List.mem_map.1 hp
  exact line_len (h x hx)
end Tw

set_option maxHeartbeats 4000000
namespace Tw
open PySem PySem.Spec PyProof.Rows L2
/-! texts.py: webs as texts -/
/-- the deeds that a web is written as -/
def Md.deeds (m : Md) : List Dd := .las m.last :: (m.own.map .mom ++ (m.wd.map .span ++ m.bd.map .tie))
def webT (m : Md) : Str := Txt.join "\n" (m.deeds.map Dd.line)
theorem rows_app {H : Hp} : ∀ {xs ys : List V} {rs ss : List (List V)}, Rows H xs rs → Rows H ys ss → Rows H (xs ++ ys) (rs ++ ss)
  | _, _, _, _, .nil, h => h
  | _, _, _, _, .cons h t, h2 => .cons h (rows_app t h2)
theorem webT_back {m : Md} (h : ∀ x ∈ m.deeds, x.Tx) : Txt.split (webT m) "\n" = m.deeds.map Dd.line := lines_back (y := "\n") (s := 10) (S := []) (by decide +kernel) (by decide +kernel) (.inl rfl) h (by unfold Md.deeds; exact fun z => nomatch z)
/-! a web by its deeds -/
/-- deeds that are granted, one behind the other -/
def Chn (m : Md) : List Dd → Md → Prop
  | [], m' => m = m'
  | x :: xs, m' => x.no m = none ∧ Chn (x.did m) xs m'
theorem chn_app : ∀ {xs ys : List Dd} {m m1 m2 : Md}, Chn m xs m1 → Chn m1 ys m2 → Chn m (xs ++ ys) m2
  | [], _, _, _, _, h, k => by
    have h : _ = _ := h
    subst h
    exact k
  | _ :: xs, _, _, _, _, ⟨h1, h2⟩, k => ⟨h1, chn_app (xs := xs) h2 k⟩
theorem chn_moms (l : Int) : ∀ (zs a : List Str), (∀ z ∈ zs, Nm z ∧ z ≠ "start") → (a ++ zs).Nodup → (a ++ zs).length ≤ 10 → Chn ⟨l, a, [], []⟩ (zs.map .mom) ⟨l, a ++ zs, [], []⟩
  | [], a, _, _, _ => by
    show _ = _
    rw [List.append_nil]
  | z :: zs, a, h, nd, le => by
    obtain ⟨n1, n2⟩ := h z List.mem_cons_self
    have e : a ++ z :: zs = (a ++ [z]) ++ zs := by rw [List.append_assoc]; rfl
    have nin : z ∉ a := fun q => by
      have := List.nodup_append.1 nd
      exact this.2.2 z q z List.mem_cons_self rfl
    refine ⟨?_, ?_⟩
    · have np : ¬ z ∈ (⟨l, a, [], []⟩ : Md).pts := fun q => by
        rcases List.mem_cons.1 q with q | q
        · exact n2 q
        · have q : z ∈ a ++ [] := q
          rw [List.append_nil] at q
          exact nin q
      have la : a.length < 10 := by
        rw [List.length_append, List.length_cons] at le
        omega
      simp only [Dd.no, if_neg (show ¬ nmB z = false from fun q => by rw [nmB_ok.2 n1] at q; cases q), if_neg np, if_pos la]
    · rw [e] at nd le ⊢
      exact chn_moms l zs (a ++ [z]) (fun y hy => h y (List.mem_cons_of_mem _ hy)) nd le
theorem chn_spans (l : Int) (own : List Str) : ∀ (xs a : List Wd), (∀ x ∈ xs, Nm x.en ∧ x.en ≠ "start" ∧ WdOk own x) → (own ++ (a ++ xs).map (·.en)).Nodup → (a ++ xs).length ≤ 4 → Chn ⟨l, own, a, []⟩ (xs.map .span) ⟨l, own, a ++ xs, []⟩
  | [], a, _, _, _ => by
    show _ = _
    rw [List.append_nil]
  | x :: xs, a, h, nd, le => by
    obtain ⟨n1, n2, ok⟩ := h x List.mem_cons_self
    have e : a ++ x :: xs = (a ++ [x]) ++ xs := by rw [List.append_assoc]; rfl
    refine ⟨?_, ?_⟩
    · have nd2 : (own ++ (a.map (·.en) ++ x.en :: xs.map (·.en))).Nodup := by
        rw [List.map_append, List.map_cons] at nd
        exact nd
      rw [← List.append_assoc] at nd2
      have np : ¬ x.en ∈ (⟨l, own, a, []⟩ : Md).pts := fun q => by
        rcases List.mem_cons.1 q with q | q
        · exact n2 q
        · exact (List.nodup_append.1 nd2).2.2 x.en q x.en List.mem_cons_self rfl
      have la : a.length < 4 := by
        rw [List.length_append, List.length_cons] at le
        omega
      have hb : x.bg ∈ ("start" : Str) :: own := by
        rcases ok.bg with q | q
        · rw [q]
          exact List.mem_cons_self
        · exact List.mem_cons_of_mem _ q
      have hl : lenB (.int x.lo) (.int x.hi) = true := by
        have := ok.lo
        have := ok.hi
        have := ok.top
        show (whB 1 1000 (.int x.lo) && whB x.lo 1000 (.int x.hi)) = true
        rw [show whB 1 1000 (.int x.lo) = true from decide_eq_true (by omega), show whB x.lo 1000 (.int x.hi) = true from decide_eq_true (by omega)]
        rfl
      have ht : lateB (oV x.la) = true := by
        cases q : x.la with
        | none => rfl
        | some i =>
          have := ok.la i q
          show (decide (V.int i = .non) || whB 0 1000 (.int i)) = true
          rw [show whB 0 1000 (.int i) = true from decide_eq_true this, Bool.or_true]
      simp only [Dd.no, if_neg (show ¬ nmB x.en = false from fun q => by rw [nmB_ok.2 n1] at q; cases q), if_neg np, if_neg (show ¬ ¬ x.bg ∈ ("start" : Str) :: own from fun q => q hb), if_neg (show ¬ lenB (.int x.lo) (.int x.hi) = false from fun q => by rw [hl] at q; cases q), if_neg (show ¬ lateB (oV x.la) = false from fun q => by rw [ht] at q; cases q), if_pos la]
    · rw [e] at nd le ⊢
      exact chn_spans l own xs (a ++ [x]) (fun y hy => h y (List.mem_cons_of_mem _ hy)) nd le
theorem chn_ties (l : Int) (own : List Str) (wd : List Wd) : ∀ (xs a : List Bd), (∀ x ∈ xs, BdOk (⟨l, own, wd, []⟩ : Md).pts x) → (a ++ xs).length ≤ 40 → Chn ⟨l, own, wd, a⟩ (xs.map .tie) ⟨l, own, wd, a ++ xs⟩
  | [], a, _, _ => by
    show _ = _
    rw [List.append_nil]
  | x :: xs, a, h, le => by
    have ok := h x List.mem_cons_self
    have e : a ++ x :: xs = (a ++ [x]) ++ xs := by rw [List.append_assoc]; rfl
    refine ⟨?_, ?_⟩
    · have la : a.length < 40 := by
        rw [List.length_append, List.length_cons] at le
        omega
      have h1 : x.one ∈ (⟨l, own, wd, a⟩ : Md).pts := ok.one
      have h2 : x.oth ∈ (⟨l, own, wd, a⟩ : Md).pts := ok.oth
      have hb : tieBnd (oV x.bot) (oV x.top) = true := bd_of rfl rfl ok.b
      simp only [Dd.no, if_neg (show ¬ ¬ x.one ∈ (⟨l, own, wd, a⟩ : Md).pts from fun z => z h1), if_neg (show ¬ ¬ x.oth ∈ (⟨l, own, wd, a⟩ : Md).pts from fun z => z h2), if_neg (show ¬ (x.one = x.oth ∨ tieBnd (oV x.bot) (oV x.top) = false) from fun z => z.elim ok.ne fun z => by rw [hb] at z; cases z), if_pos la]
    · rw [e] at le ⊢
      exact chn_ties l own wd xs (a ++ [x]) (fun y hy => h y (List.mem_cons_of_mem _ hy)) le
theorem MdOk.chn {m : Md} (ok : MdOk m) : Chn ⟨100, [], [], []⟩ m.deeds m := by
  refine ⟨?_, ?_⟩
  · simp only [Dd.no, if_pos (show whB 1 1000 (.int m.last) = true from decide_eq_true ok.last)]
  · have nd := ok.nd
    have p : ∀ z ∈ m.own ++ m.wd.map (·.en), Nm z ∧ ¬ z = "start" := fun z hz => pool_nm (ok.pool z hz)
    have c1 := chn_moms m.last m.own [] (fun z hz => p z (List.mem_append_left _ hz)) (List.nodup_append.1 nd).1 ok.len.1
    have c2 := chn_spans m.last m.own m.wd [] (fun x hx => ⟨(p _ (List.mem_append_right _ (List.mem_map_of_mem hx))).1, (p _ (List.mem_append_right _ (List.mem_map_of_mem hx))).2, ok.wd x hx⟩) nd ok.len.2.1
    have c3 := chn_ties m.last m.own m.wd m.bd [] (fun x hx => ok.bd x hx) ok.len.2.2
    exact chn_app c1 (chn_app c2 c3)
theorem MdOk.tx {m : Md} (ok : MdOk m) : ∀ x ∈ m.deeds, x.Tx ∧ x.Fine := fun x hx => by
  have p : ∀ z ∈ m.pts, Nm z := fun z hz => by
    rcases List.mem_cons.1 hz with q | q
    · rw [q]
      exact nmB_ok.1 (by decide +kernel)
    · exact (pool_nm (ok.pool z q)).1
  rcases List.mem_cons.1 hx with rfl | hx
  · have := ok.last
    exact ⟨(by show m.last.natAbs < _; omega), trivial⟩
  · rcases List.mem_append.1 hx with hx | hx
    · obtain ⟨z, hz, rfl⟩ := List.mem_map.1 hx
      have n := p z (List.mem_cons_of_mem _ (List.mem_append_left _ hz))
      exact ⟨n, nm_len n⟩
    · rcases List.mem_append.1 hx with hx | hx
      · obtain ⟨y, hy, rfl⟩ := List.mem_map.1 hx
        have n := p y.en (List.mem_cons_of_mem _ (List.mem_append_right _ (List.mem_map_of_mem hy)))
        have w := ok.wd y hy
        have := w.lo
        have := w.hi
        have := w.top
        refine ⟨⟨n, ?_, by omega, by omega, fun i hi => ?_⟩, nm_len n⟩
        · rcases w.bg with q | q
          · rw [q]
            exact nmB_ok.1 (by decide +kernel)
          · exact p _ (List.mem_cons_of_mem _ (List.mem_append_left _ q))
        · have := w.la i hi
          omega
      · obtain ⟨y, hy, rfl⟩ := List.mem_map.1 hx
        have b := ok.bd y hy
        refine ⟨⟨p _ b.one, p _ b.oth, fun i hi => ?_, fun i hi => ?_⟩, trivial⟩
        · have := b.b.lo i hi
          omega
        · have := b.b.hi i hi
          omega
/-! what may stand behind what -/
def Dd.rank : Dd → Nat
  | .las _ => 0
  | .mom _ => 1
  | .span _ => 2
  | .tie _ => 3
  | _ => 4
def Fl : Nat → List Dd → Prop
  | _, [] => True
  | r, x :: xs => r ≤ x.rank ∧ (1 ≤ x.rank ∧ x.rank ≤ 3) ∧ Fl x.rank xs
theorem Fl.up : ∀ {xs : List Dd} {r r' : Nat}, Fl r' xs → r ≤ r' → Fl r xs
  | [], _, _, _, _ => trivial
  | _ :: _, _, _, ⟨a, b⟩, h => ⟨Nat.le_trans h a, b⟩
theorem fl_app (a : Nat) (ha : 1 ≤ a ∧ a ≤ 3) : ∀ {xs ys : List Dd} {r : Nat}, (∀ x ∈ xs, x.rank = a) → r ≤ a → Fl a ys → Fl r (xs ++ ys)
  | [], _, _, _, hr, h => h.up hr
  | x :: xs, ys, r, hx, hr, h => by
    have e := hx x List.mem_cons_self
    exact ⟨by rw [e]; exact hr, by rw [e]; exact ha, by rw [e]; exact fl_app a ha (fun y hy => hx y (List.mem_cons_of_mem _ hy)) (Nat.le_refl _) h⟩
theorem deeds_fl (m : Md) : Fl 0 (m.own.map .mom ++ (m.wd.map .span ++ m.bd.map .tie)) := by
  refine fl_app 1 (by decide) (fun x hx => ?_) (Nat.zero_le _) (fl_app 2 (by decide) (fun x hx => ?_) (by decide) ?_)
  · obtain ⟨z, _, rfl⟩ := List.mem_map.1 hx
    rfl
  · obtain ⟨z, _, rfl⟩ := List.mem_map.1 hx
    rfl
  · have := fl_app 3 (by decide) (xs := m.bd.map .tie) (ys := []) (r := 2) (fun x hx => by
      obtain ⟨z, _, rfl⟩ := List.mem_map.1 hx
      rfl) (by decide) trivial
    rwa [List.append_nil] at this
section
variable {P : Program} {w : World} {K : PySem.W.Frag} {mg : Str → Option Value} {base : Heap}
/-! ### written -/
def sp_wweb (K : PySem.W.Frag) : Sp := fun vs H Q _ => ∃ (p : Addr) (m : Md), vs = [.ref p] ∧ WebAt (CW K) H p m ∧ (∀ x ∈ m.deeds, x.Tx) ∧ ∀ H', Same H H' → Q (.str (webT m)) H'
theorem cal_write_web (T : Tp K mg) : Cal P w K mg base 4 "write_web" (sp_wweb K) := by
  obtain ⟨fd, F⟩ := f_write_web T
  refine cal_of F (g_write_web T) (b_write_web F) sc_write_web (fun vs H Q E h => ?_) (fun cdv A outer s H vs Q E hr h => ?_)
  · obtain ⟨p, m, rfl, _⟩ := h
    rfl
  · obtain ⟨p, m, rfl, W, tx, q⟩ := h
    refine ⟨_, (pss_cons (ps_set (i := 1) sc_write_web.nd rfl (.inl rfl) (pe_lst (pa_cons (pe_tup (pa_cons pe_str (pa_cons (pe_fld (pv 0) rfl) pa_nil))) pa_nil)))
      (pss_cons (ps_expr (pe_bm PySem.F.plainAttrs_list PySem.F.slot_list_extend PySem.F.type_list_extend mt_extend (pv 1) (pa_cons (pe_lc (own := [("name", 2)]) (g := gName 2) (tt := tYes) rfl sc_write_web.nd (pi_list (C8.pe_mt0 (met_Web_moments T) hr (by decide) (pv 0))) (blkOk_by (N := N_write_web) (sc := defScope s_write_web) (by decide +kernel)) (fun _ _ _ _ _ => (pg_name (i := 2) sc_write_web.nd rfl (.inl rfl))) (fun _ _ _ _ _ => pts_nil) (fun _ _ _ _ _ => (pe_tup (pa_cons pe_str (pa_cons (pv 2) pa_nil))))) pa_nil)))
      (pss_cons (ps_expr (pe_bm PySem.F.plainAttrs_list PySem.F.slot_list_extend PySem.F.type_list_extend mt_extend (pv 1) (pa_cons (pe_lc (own := [("span", 3)]) (g := gName 3) (tt := tYes) rfl sc_write_web.nd (pi_list (C8.pe_mt0 (met_Web_spans T) hr (by decide) (pv 0))) (blkOk_by (N := N_write_web) (sc := defScope s_write_web) (by decide +kernel)) (fun _ _ _ _ _ => (pg_name (i := 3) sc_write_web.nd rfl (.inl rfl))) (fun _ _ _ _ _ => pts_nil) (fun _ _ _ _ _ => (pe_tup (pa_cons pe_str (pa_starK (K := K) rfl (pv 3) pa_nil))))) pa_nil)))
      (pss_cons (ps_expr (pe_bm PySem.F.plainAttrs_list PySem.F.slot_list_extend PySem.F.type_list_extend mt_extend (pv 1) (pa_cons (pe_lc (own := [("tie", 4)]) (g := gName 4) (tt := tYes) rfl sc_write_web.nd (pi_list (C8.pe_mt0 (met_Web_ties T) hr (by decide) (pv 0))) (blkOk_by (N := N_write_web) (sc := defScope s_write_web) (by decide +kernel)) (fun _ _ _ _ _ => (pg_name (i := 4) sc_write_web.nd rfl (.inl rfl))) (fun _ _ _ _ _ => pts_nil) (fun _ _ _ _ _ => (pe_tup (pa_cons pe_str (pa_starK (K := K) rfl (pv 4) pa_nil))))) pa_nil)))
      (pss_one (ps_ret (pe_bm PySem.F.plainAttrs_str PySem.F.slot_str_join PySem.F.type_str_join mt_join pe_str (pa_cons (pe_lc (own := [("deed", 5)]) (g := gName 5) (tt := tYes) rfl sc_write_web.nd (pi_list (pv 1)) (blkOk_by (N := N_write_web) (sc := defScope s_write_web) (by decide +kernel)) (fun _ _ _ _ _ => (pg_name (i := 5) sc_write_web.nd rfl (.inl rfl))) (fun _ _ _ _ _ => pts_nil) (fun _ _ _ _ _ => (C8.pe_c (cal_write_deed T) hr (by decide) rfl (pa_cons (pv 5) pa_nil)))) pa_nil)))))))), ?_⟩
    obtain ⟨dx, a, b, c, ws, bs, h1, h2, h3, h4, h5, h6⟩ := W.ex
    refine ⟨_, rfl, p, CW K, dx, _, _, rfl, h1, cl_Web T, na_by T, wf_by, (by show 2 ≤ sizeLine; decide), fun t0 nt0 => ⟨(by show 1 ≤ sizeLine; decide), fun D nD => ?_⟩⟩
    have s1 : Same H (upd (upd H t0 (.tup [.str "by", .int m.last])) D (.lst [.ref t0])) := (same_upd nt0).trans (same_upd nD)
    have hD1 : (upd (upd H t0 (.tup [.str "by", .int m.last])) D (.lst [.ref t0])) D = some (.lst [.ref t0]) := upd_same
    have R1 : Rows (upd (upd H t0 (.tup [.str "by", .int m.last])) D (.lst [.ref t0])) [.ref t0] [(Dd.las m.last).row] := .cons ⟨t0, rfl, (same_upd nD) _ _ upd_same⟩ .nil
    have nDH : H D = none := (same_upd nt0).free nD
    clear nD nt0
    generalize upd (upd H t0 (.tup [.str "by", .int m.last])) D (.lst [.ref t0]) = H1 at s1 hD1 R1 ⊢
    have W1 := W.same s1
    have le := W.len
    -- the moments
    refine ⟨_, rfl, .inl ⟨rfl, _, .inl (.inl hD1)⟩, _, rfl, p, dx, _, rfl, s1 _ _ h1, wf_no (by decide +kernel), p, m, rfl, W1, fun q1 nq1 => ⟨q1, rfl, ⟨_, .inl (.inl upd_same)⟩, fun E1 nE1 => ?_⟩⟩
    have sq1 := same_upd (o := .lst (m.own.map V.str)) nq1
    have hq1 : upd H1 q1 (.lst (m.own.map V.str)) q1 = some (.lst (m.own.map V.str)) := upd_same
    generalize upd H1 q1 (.lst (m.own.map V.str)) = H2 at sq1 hq1 nE1 ⊢
    refine lc_pure m.own (walk_listN (K := K) (a := q1) (xs := m.own.map V.str) (List.length_map _)) (fun z => some (Dd.mom z)) (SR Dd.row) sr_k nE1 (by omega) (fun H' s => .inl (.inl (s _ _ hq1))) ?_ ?_
    · rintro i z u G1 G2 hz sg ⟨rfl, hu⟩ Good Bad kt kf
      rw [List.getElem?_map, hz] at hu
      cases hu
      exact ⟨rfl, yes_i (iteT ⟨_, rfl, (by show 2 ≤ sizeLine; decide), fun t nt => kt _ _ _ rfl (same_upd nt) ⟨t, rfl, upd_same⟩⟩)⟩
    intro G acc sg dg pg
    have fm : m.own.filterMap (fun z => some (Dd.mom z)) = m.own.map Dd.mom := List.filterMap_eq_map ▸ rfl
    rw [fm] at pg
    have l1 := pg.length
    rw [List.length_map] at l1
    have sG : Same H1 G := sq1.trans sg
    have hDG := sG _ _ hD1
    refine ⟨D, E1, _, acc, rfl, rfl, hDG, dg, Nat.le_of_lt (small1000 (by rw [l1]; show 1 + m.own.length ≤ 1000; omega)), ?_⟩
    have s3 : Same H (upd G D (.lst ([.ref t0] ++ acc))) := same_put (s1.trans sG) nDH
    have hD3 : upd G D (.lst ([.ref t0] ++ acc)) D = some (.lst ([.ref t0] ++ acc)) := upd_same
    have kt3 := kt_lst (ys := [.ref t0] ++ acc) hDG
    have R3 : Rows (upd G D (.lst ([.ref t0] ++ acc))) ([.ref t0] ++ acc) ([(Dd.las m.last).row] ++ (m.own.map Dd.mom).map Dd.row) := rows_app ((R1.keep (Kt.of sG)).keep kt3) ((paired_rows pg).keep kt3)
    generalize upd G D (.lst ([.ref t0] ++ acc)) = H3 at s3 hD3 R3 ⊢
    clear sG hDG kt3 sg dg pg sq1 hq1 nq1 nE1 R1 hD1 s1 W1
    -- spans
    have W3 := W.same s3
    refine ⟨_, rfl, .inl ⟨rfl, _, .inl (.inl hD3)⟩, _, rfl, p, dx, _, rfl, s3 _ _ h1, wf_no (by decide +kernel), p, m, rfl, W3, fun ws3 q3 rw3 nq3 => ⟨q3, rfl, ⟨_, .inl (.inl upd_same)⟩, fun E3 nE3 => ?_⟩⟩
    have sq3 := same_upd (o := .lst ws3) nq3
    have hq3 : upd H3 q3 (.lst ws3) q3 = some (.lst ws3) := upd_same
    have rv3 := rw3.keep (Kt.of sq3)
    have lw3 : ws3.length = m.wd.length := by rw [rv3.len, List.length_map]
    generalize upd H3 q3 (.lst ws3) = J3 at sq3 hq3 nE3 rv3 ⊢
    refine lc_pure m.wd (walk_listN (K := K) (a := q3) (xs := ws3) lw3) (fun z => some (Dd.span z)) (SR Dd.row) sr_k nE3 (by omega) (fun H' s => .inl (.inl (s _ _ hq3))) ?_ ?_
    · rintro i z u G1 G2 hz sg ⟨rfl, hu⟩ Good Bad kt kf
      obtain ⟨tz, rfl, htz⟩ := rows_at rv3 hu hz
      refine ⟨rfl, yes_i (iteT ⟨_, rfl, tz, Wd.row z, rfl, .inl (.inl (.inl (sg _ _ htz))), ?_, fun t nt => kt _ _ _ rfl (same_upd nt) ⟨t, rfl, ?_⟩⟩)⟩
      · rw [List.append_nil]
        exact Nat.le_of_lt (small1000 (Nat.le_of_ble_eq_true rfl))
      · rw [List.append_nil]
        exact upd_same
    intro G3 acc3 sg dg pg
    have fm : m.wd.filterMap (fun z => some (Dd.span z)) = m.wd.map Dd.span := List.filterMap_eq_map ▸ rfl
    rw [fm] at pg
    have l3 := pg.length
    rw [List.length_map] at l3
    have sG : Same H3 G3 := sq3.trans sg
    have hDG := sG _ _ hD3
    have lD3 := R3.len
    refine ⟨D, E3, _, acc3, rfl, rfl, hDG, dg, Nat.le_of_lt (small1000 (by rw [lD3, l3]; simp only [List.length_append, List.length_map, List.length_cons, List.length_nil]; omega)), ?_⟩
    have s4 : Same H (upd G3 D (.lst ([.ref t0] ++ acc ++ acc3))) := same_put (s3.trans sG) nDH
    have hD4 : upd G3 D (.lst ([.ref t0] ++ acc ++ acc3)) D = some (.lst ([.ref t0] ++ acc ++ acc3)) := upd_same
    have kt4 := kt_lst (ys := [.ref t0] ++ acc ++ acc3) hDG
    have R4 : Rows (upd G3 D (.lst ([.ref t0] ++ acc ++ acc3))) ([.ref t0] ++ acc ++ acc3) ([(Dd.las m.last).row] ++ (m.own.map Dd.mom).map Dd.row ++ (m.wd.map Dd.span).map Dd.row) := rows_app ((R3.keep (Kt.of sG)).keep kt4) ((paired_rows pg).keep kt4)
    generalize upd G3 D (.lst ([.ref t0] ++ acc ++ acc3)) = H4 at s4 hD4 R4 ⊢
    clear sG hDG kt4 sg dg pg sq3 hq3 nq3 nE3 R3 hD3 s3 W3 rv3 rw3
    -- ties
    have W4 := W.same s4
    refine ⟨_, rfl, .inl ⟨rfl, _, .inl (.inl hD4)⟩, _, rfl, p, dx, _, rfl, s4 _ _ h1, wf_no (by decide +kernel), p, m, rfl, W4, fun ws4 q4 rw4 nq4 => ⟨q4, rfl, ⟨_, .inl (.inl upd_same)⟩, fun E4 nE4 => ?_⟩⟩
    have sq4 := same_upd (o := .lst ws4) nq4
    have hq4 : upd H4 q4 (.lst ws4) q4 = some (.lst ws4) := upd_same
    have rv4 := rw4.keep (Kt.of sq4)
    have lw4 : ws4.length = m.bd.length := by rw [rv4.len, List.length_map]
    generalize upd H4 q4 (.lst ws4) = J4 at sq4 hq4 nE4 rv4 ⊢
    refine lc_pure m.bd (walk_listN (K := K) (a := q4) (xs := ws4) lw4) (fun z => some (Dd.tie z)) (SR Dd.row) sr_k nE4 (by omega) (fun H' s => .inl (.inl (s _ _ hq4))) ?_ ?_
    · rintro i z u G1 G2 hz sg ⟨rfl, hu⟩ Good Bad kt kf
      obtain ⟨tz, rfl, htz⟩ := rows_at rv4 hu hz
      refine ⟨rfl, yes_i (iteT ⟨_, rfl, tz, Bd.row z, rfl, .inl (.inl (.inl (sg _ _ htz))), ?_, fun t nt => kt _ _ _ rfl (same_upd nt) ⟨t, rfl, ?_⟩⟩)⟩
      · rw [List.append_nil]
        exact Nat.le_of_lt (small1000 (Nat.le_of_ble_eq_true rfl))
      · rw [List.append_nil]
        exact upd_same
    intro G4 acc4 sg dg pg
    have fm : m.bd.filterMap (fun z => some (Dd.tie z)) = m.bd.map Dd.tie := List.filterMap_eq_map ▸ rfl
    rw [fm] at pg
    have l4 := pg.length
    rw [List.length_map] at l4
    have sG : Same H4 G4 := sq4.trans sg
    have hDG := sG _ _ hD4
    have lD4 := R4.len
    refine ⟨D, E4, _, acc4, rfl, rfl, hDG, dg, Nat.le_of_lt (small1000 (by rw [lD4, l4]; simp only [List.length_append, List.length_map, List.length_cons, List.length_nil]; omega)), ?_⟩
    have s5 : Same H (upd G4 D (.lst ([.ref t0] ++ acc ++ acc3 ++ acc4))) := same_put (s4.trans sG) nDH
    have hD5 : upd G4 D (.lst ([.ref t0] ++ acc ++ acc3 ++ acc4)) D = some (.lst ([.ref t0] ++ acc ++ acc3 ++ acc4)) := upd_same
    have kt5 := kt_lst (ys := [.ref t0] ++ acc ++ acc3 ++ acc4) hDG
    have R5 : Rows (upd G4 D (.lst ([.ref t0] ++ acc ++ acc3 ++ acc4))) ([.ref t0] ++ acc ++ acc3 ++ acc4) ([(Dd.las m.last).row] ++ (m.own.map Dd.mom).map Dd.row ++ (m.wd.map Dd.span).map Dd.row ++ (m.bd.map Dd.tie).map Dd.row) := rows_app ((R4.keep (Kt.of sG)).keep kt5) ((paired_rows pg).keep kt5)
    generalize upd G4 D (.lst ([.ref t0] ++ acc ++ acc3 ++ acc4)) = H5 at s5 hD5 R5 ⊢
    clear sG hDG kt5 sg dg pg sq4 hq4 nq4 nE4 R4 hD4 s4 W4 rv4 rw4
    have eR : [(Dd.las m.last).row] ++ (m.own.map Dd.mom).map Dd.row ++ (m.wd.map Dd.span).map Dd.row ++ (m.bd.map Dd.tie).map Dd.row = m.deeds.map Dd.row := by
      unfold Md.deeds
      rw [List.map_cons, List.map_append, List.map_append, List.append_assoc, List.append_assoc]
      rfl
    rw [eR] at R5
    generalize [V.ref t0] ++ acc ++ acc3 ++ acc4 = xs at hD5 R5
    have lx := R5.len
    rw [List.length_map] at lx
    have ld : m.deeds.length ≤ 55 := by
      unfold Md.deeds
      rw [List.length_cons, List.length_append, List.length_append, List.length_map, List.length_map, List.length_map]
      omega
    refine ⟨rfl, _, rfl, D, rfl, ⟨_, .inl (.inl hD5)⟩, fun E nE => ?_⟩
    refine lc_pure m.deeds (walk_listN (K := K) (a := D) (xs := xs) lx) (fun x => some x.line) (SV V.str) (fun _ h => h) nE (by omega) (fun H' s => .inl (.inl (s _ _ hD5))) ?_ ?_
    · rintro i x u G1 G2 hx sg ⟨rfl, hu⟩ Good Bad kt kf
      obtain ⟨tz, rfl, htz⟩ := rows_at R5 hu hx
      exact ⟨rfl, yes_i (iteT ⟨_, rfl, tz, x, rfl, sg _ _ htz, tx x (List.mem_of_getElem? hx), fun H' s' => kt _ _ _ rfl s' rfl⟩)⟩
    · intro G5 acc5 sg dg pg
      have ea := paired_enc pg
      rw [show m.deeds.filterMap (fun x => some x.line) = m.deeds.map Dd.line from List.filterMap_eq_map ▸ rfl] at ea
      subst ea
      refine ⟨"\n", E, m.deeds.map Dd.line, rfl, rfl, .inl (.inl (.inl dg)), ?_, q G5 (s5.trans sg)⟩
      have := sumB 66 (lines_len tx)
      rw [List.length_map] at this
      rw [List.length_map, nl_one]
      omega
/-! ### read -/
abbrev TboN (w : World) (K : PySem.W.Frag) : Prop := ∀ t ∈ tn, He.dicW K (t.1 K) = some (none :: He.keysIn w.params t.2)
/-- what may stand behind a word -/
def Flw : Option Str → Str → Prop
  | none, x => x = "by"
  | some a, x => (a = "by" ∧ x ∈ (["moment", "span", "tie"] : List Str)) ∨ (a = "moment" ∧ x ∈ (["moment", "span", "tie"] : List Str)) ∨ (a = "span" ∧ x ∈ (["span", "tie"] : List Str)) ∨ (a = "tie" ∧ x ∈ (["tie"] : List Str))
def sp_needf : Sp := fun vs H Q _ => ∃ (a : Option Str) (x : Str), vs = [nkV a, .str x] ∧ Flw a x ∧ Q .non H
theorem cal_need_follower (T : Tp K mg) (TN : TboN w K) : Cal P w K mg base 1 "need_follower" sp_needf := by
  obtain ⟨fd, F⟩ := f_need_follower T
  refine cal_of F (g_need_follower T) (b_need_follower F) sc_need_follower (fun vs H Q E h => ?_) (fun cdv A outer s H vs Q E hr h => ?_)
  · obtain ⟨a, x, rfl, _⟩ := h
    rfl
  · obtain ⟨a, x, rfl, hx, q⟩ := h
    obtain ⟨es, n, DN⟩ := ndict_of (TN (fun K => He.ga K "FOLLOWERS", ["by", "moment", "span", "tie"]) (by first | exact List.mem_cons_self | exact List.mem_cons_of_mem _ List.mem_cons_self)) (non_FOLLOWERS T)
    refine ⟨_, (pss_one (ps_if (pt_cmpR op_notIn_seq (pv 1) (pe_ix (ix_nd DN) (pe_glob (v := .ref (He.ga K "FOLLOWERS")) (by rfl) (g_FOLLOWERS T) rfl) (pv 0) (fun _ _ => rfl)) (by rfl)) (pss_one ps_never) pss_nil)), ?_⟩
    obtain ⟨b, xs, hn, hb, hin⟩ : ∃ (b : Addr) (xs : List Str), NAt K es a (.ref b) ∧ (∀ H, SqT K H b (xs.map V.str)) ∧ x ∈ xs := by
      cases a with
      | none =>
        obtain ⟨b, h1, h2⟩ := nat_none DN (non_FOLLOWERS T)
        exact ⟨b, ["by"], h1, h2, by rw [show x = "by" from hx]; exact List.mem_cons_self⟩
      | some a =>
        rcases hx with ⟨rfl, h⟩ | ⟨rfl, h⟩ | ⟨rfl, h⟩ | ⟨rfl, h⟩
        · obtain ⟨b, h1, h2⟩ := nat_some DN (frx_FOLLOWERS_by T)
          exact ⟨b, _, h1, h2, h⟩
        · obtain ⟨b, h1, h2⟩ := nat_some DN (frx_FOLLOWERS_moment T)
          exact ⟨b, _, h1, h2, h⟩
        · obtain ⟨b, h1, h2⟩ := nat_some DN (frx_FOLLOWERS_span T)
          exact ⟨b, _, h1, h2, h⟩
        · obtain ⟨b, h1, h2⟩ := nat_some DN (frx_FOLLOWERS_tie T)
          exact ⟨b, _, h1, h2, h⟩
    refine ⟨_, rfl, _, rfl, a, .ref b, rfl, rfl, hn, ?_⟩
    refine ⟨b, _, rfl, .inr (hb H), rfl, ?_, _, rfl, ?_⟩
    · rw [List.all_map]
      exact List.all_eq_true.2 fun _ _ => rfl
    · rw [in_strs, decide_eq_true hin]
      exact iteF q
theorem word_rank (x y : Dd) (hx : x.rank ≤ 3) (h : x.rank ≤ y.rank) (hy : 1 ≤ y.rank ∧ y.rank ≤ 3) : Flw (some x.word) y.word := by
  have m1 : ("moment" : Str) ∈ (["moment", "span", "tie"] : List Str) := List.mem_cons_self
  have m2 : ("span" : Str) ∈ (["moment", "span", "tie"] : List Str) := List.mem_cons_of_mem _ List.mem_cons_self
  have m3 : ("tie" : Str) ∈ (["moment", "span", "tie"] : List Str) := List.mem_cons_of_mem _ (List.mem_cons_of_mem _ List.mem_cons_self)
  have n2 : ("span" : Str) ∈ (["span", "tie"] : List Str) := List.mem_cons_self
  have n3 : ("tie" : Str) ∈ (["span", "tie"] : List Str) := List.mem_cons_of_mem _ List.mem_cons_self
  have l3 : ("tie" : Str) ∈ (["tie"] : List Str) := List.mem_cons_self
  cases x <;> cases y <;> simp only [Dd.rank] at hx h hy <;> first
    | omega
    | exact .inl ⟨rfl, m1⟩
    | exact .inl ⟨rfl, m2⟩
    | exact .inl ⟨rfl, m3⟩
    | exact .inr (.inl ⟨rfl, m1⟩)
    | exact .inr (.inl ⟨rfl, m2⟩)
    | exact .inr (.inl ⟨rfl, m3⟩)
    | exact .inr (.inr (.inl ⟨rfl, n2⟩))
    | exact .inr (.inr (.inl ⟨rfl, n3⟩))
    | exact .inr (.inr (.inr ⟨rfl, l3⟩))
def sp_rweb (K : PySem.W.Frag) : Sp := fun vs H Q _ => ∃ m : Md, vs = [.str (webT m)] ∧ (∀ x ∈ m.deeds, x.Tx ∧ x.Fine) ∧ m.deeds.length ≤ 60 ∧ Chn ⟨100, [], [], []⟩ m.deeds m ∧ ∀ (q : Addr) (H' : Hp), Same H H' → H q = none → WebAt (CW K) H' q m → Q (.ref q) H'
theorem cal_read_web (T : Tp K mg) (TO : TboX w K) (TN : TboN w K) : Cal P w K mg base 12 "read_web" (sp_rweb K) := by
  obtain ⟨fd, F⟩ := f_read_web T
  refine cal_of F (g_read_web T) (b_read_web F) sc_read_web (fun vs H Q E h => ?_) (fun cdv A outer s H vs Q E hr h => ?_)
  · obtain ⟨m, rfl, _⟩ := h
    rfl
  · obtain ⟨m, rfl, ok, few, ch, q⟩ := h
    refine ⟨_, (pss_cons (ps_set (i := 1) sc_read_web.nd rfl (.inl rfl) (pe_mk0 (mak0_Web T) hr (by decide) rfl))
      (pss_cons (ps_set (i := 2) sc_read_web.nd rfl (.inl rfl) pe_non)
      (pss_cons (ps_for PassesOwn.never rfl (pi_enum (by rfl) (z_enumerate T) (pa_cons (pe_bm PySem.F.plainAttrs_str PySem.F.slot_str_split PySem.F.type_str_split mt_split (pv 0) (pa_cons pe_str pa_nil)) pa_nil)) (pg_tup rfl (pgs_cons (pg_name (i := 3) sc_read_web.nd rfl (.inl rfl)) (pgs_cons (pg_name (i := 4) sc_read_web.nd rfl (.inl rfl)) pgs_nil)))
        (pss_cons (ps_try_thru0 (pss_cons (ps_set (i := 5) sc_read_web.nd rfl (.inl rfl) (C8.pe_c (cal_read_deed T TO) hr (by decide) rfl (pa_cons (pv 4) pa_nil)))
          (pss_cons (ps_expr (C8.pe_c (cal_need_follower T TN) hr (by decide) rfl (pa_cons (pv 2) (pa_cons (pe_ix ix_tup (pv 5) pe_int (fun _ _ => rfl)) pa_nil))))
          (pss_one (ps_set (i := 1) sc_read_web.nd rfl (.inl rfl) (C8.pe_c (CalX.calm (calx_with_deed T)) hr (by decide) rfl (pa_cons (pv 1) (pa_cons (pv 5) pa_nil))))))))
        (pss_one (ps_set (i := 2) sc_read_web.nd rfl (.inl rfl) (pe_ix ix_tup (pv 5) pe_int (fun _ _ => rfl))))))
      (pss_one (ps_ret (pv 1)))))), ?_⟩
    have tx : ∀ x ∈ m.deeds, x.Tx := fun x hx => (ok x hx).1
    have back := webT_back tx
    have ll : (webT m).length ≤ 60 * 67 := by
      have := joinB "\n" 66 (m.deeds.map Dd.line) (lines_len tx)
      rw [List.length_map, nl_one] at this
      exact Nat.le_trans this (Nat.mul_le_mul_right _ few)
    refine fun x dx nx ndx ne => ⟨x, dx, 100, rfl, upd_same, by decide, by decide, fun a0 b0 c0 H1 kp hx ha hb hc => ⟨rfl, ?_⟩⟩
    have s1 : Same H H1 := Same.made nx ndx kp
    have W1 : WebAt (CW K) H1 x ⟨100, [], [], []⟩ := ⟨⟨dx, a0, b0, c0, [], [], hx, ha, hb, .nil, hc, .nil⟩, ⟨Nat.zero_le _, Nat.zero_le _, Nat.zero_le _⟩, ⟨by decide, by decide⟩⟩
    refine ⟨_, rfl, rfl, _, _, rfl, rfl, by decide +kernel, by rw [sizeLine_eq]; omega, fun p np => ?_⟩
    rw [back]
    have s2 := s1.trans (same_upd (o := .lst ((m.deeds.map Dd.line).map V.str)) np)
    have hp : upd H1 p (.lst ((m.deeds.map Dd.line).map V.str)) p = some (.lst ((m.deeds.map Dd.line).map V.str)) := upd_same
    have W2 := W1.same (same_upd (o := .lst ((m.deeds.map Dd.line).map V.str)) np)
    generalize upd H1 p (.lst ((m.deeds.map Dd.line).map V.str)) = H2 at s2 hp W2 ⊢
    refine ⟨p, _, rfl, .inl (.inl hp), ?_⟩
    have lx : ((m.deeds.map Dd.line).map V.str).length = m.deeds.length := by rw [List.length_map, List.length_map]
    refine for_it (walk_enum (xs := (m.deeds.map Dd.line).map V.str)) (fun i σ H' => Same H2 H' ∧ ∃ (qi : Addr) (mi : Md) (ah : Option Str) (y3 y4 y5 : Option V), σ = [some (.str (webT m)), some (.ref qi), some (nkV ah), y3, y4, y5] ∧ H qi = none ∧ WebAt (CW K) H' qi mi ∧ Chn mi (m.deeds.drop i) m ∧ ((i = 0 ∧ ah = none) ∨ ∃ y : Dd, ah = some y.word ∧ y.rank ≤ 3 ∧ Fl y.rank (m.deeds.drop i))) ⟨Same.refl _, x, _, none, none, none, none, rfl, nx, W2, ch, .inl ⟨rfl, rfl⟩⟩ (fun i σ H' _ h => .inl (.inl (h.1 _ _ hp))) ?_ ?_
    · rintro i u σ G1 G2 hi ⟨s3, qi, mi, ah, y3, y4, y5, rfl, nq, Wi, chi, hah⟩ ⟨TT, v1, v2, rfl, nT, rfl, h1, h2⟩
      cases h1
      have hi : i < m.deeds.length := by
        have := hi
        omega
      obtain ⟨x, ex⟩ : ∃ x, m.deeds[i]? = some x := ⟨_, List.getElem?_eq_getElem hi⟩
      have h2 : ((m.deeds.map Dd.line).map V.str)[i]? = some v2 := h2
      rw [List.getElem?_map, List.getElem?_map, ex] at h2
      cases h2
      have ed : m.deeds.drop i = x :: m.deeds.drop (i + 1) := by
        obtain ⟨hi, e⟩ := List.getElem?_eq_some_iff.1 ex
        rw [List.drop_eq_getElem_cons hi, e]
      rw [ed] at chi hah
      obtain ⟨no, ch2⟩ := chi
      obtain ⟨txx, fx⟩ := ok x (List.mem_of_getElem? ex)
      have flw : Flw ah x.word ∧ x.rank ≤ 3 ∧ Fl x.rank (m.deeds.drop (i + 1)) := by
        rcases hah with ⟨i0, rfl⟩ | ⟨y, rfl, hy, h1, h2, h3⟩
        · subst i0
          have e0 : m.deeds[0]? = some (.las m.last) := rfl
          rw [e0] at ex
          cases ex
          exact ⟨rfl, Nat.zero_le _, deeds_fl m⟩
        · exact ⟨word_rank y x hy h1 h2, h2.2, h3⟩
      have sT := same_upd (o := .tup [.int (i : Nat), .str x.line]) nT
      have s4 := s3.trans sT
      refine ⟨TT, _, rfl, .inl (.inl upd_same), rfl, _, _, rfl, _, _, rfl, rfl, ?_⟩
      have Wj := Wi.same sT
      generalize upd G1 TT (.tup [.int (i : Nat), .str x.line]) = G3 at s4 Wj ⊢
      refine ⟨_, rfl, x, rfl, txx, fun t G4 s5 nt ht => ?_⟩
      refine ⟨_, rfl, _, rfl, t, _, 0, _, rfl, rfl, .inl (.inl ht), atI_nat (j := 0) rfl, ah, x.word, rfl, flw.1, ?_⟩
      refine ⟨_, rfl, _, rfl, qi, t, mi, x, rfl, Wj.same s5, ht, fx, (fun r hr => by rw [no] at hr; cases hr), fun _ q2 G5 s6 nq2 W6 => ?_⟩
      have s7 := (s4.trans s5).trans s6
      exact ⟨_, rfl, t, _, 0, _, rfl, rfl, .inl (.inl (s6 _ _ ht)), atI_nat (j := 0) rfl, s7, q2, _, some x.word, _, _, _, rfl, (s2.trans (s4.trans s5)).free nq2, W6, ch2, .inr ⟨x, rfl, flw.2.1, flw.2.2⟩⟩
    · rintro σ G1 ⟨s3, qi, mi, ah, y3, y4, y5, rfl, nq, Wi, chi, hah⟩
      rw [lx, List.drop_length] at chi
      have e : mi = m := chi
      subst e
      exact ⟨_, rfl, q qi G1 (s2.trans s3) nq Wi⟩
end
end Tw

set_option maxHeartbeats 4000000
namespace Tw
open PySem PySem.Spec PyProof.Rows L2
/-! the line of a deed, by the law -/
section
variable {P : Program} {w : World} {K : PySem.W.Frag} {mg : Str → Option Value} {base : Heap}
def sp_ldline : Sp := fun vs H Q _ => ∃ (t : Addr) (x : Dd), vs = [.ref t] ∧ H t = some (.tup x.row) ∧ x.Tx ∧ ∀ H', Same H H' → Q (.str x.line) H'
theorem cal__law_deed_line (T : Tp K mg) : Cal P w K mg base 2 "_law_deed_line" sp_ldline := by
  obtain ⟨fd, F⟩ := f__law_deed_line T
  refine cal_of F (g__law_deed_line T) (b__law_deed_line F) sc__law_deed_line (fun vs H Q E h => ?_) (fun cdv A outer s H vs Q E hr h => ?_)
  · obtain ⟨t, x, rfl, _⟩ := h
    rfl
  · obtain ⟨t, x, rfl, ht, tx, q⟩ := h
    refine ⟨_, (pss_one (ps_ret (pe_bm PySem.F.plainAttrs_str PySem.F.slot_str_join PySem.F.type_str_join mt_join pe_str (pa_cons (pe_lc (own := [("_law_one", 1)]) (g := gName 1) (tt := tYes) rfl sc__law_deed_line.nd (pi_tup (pv 0)) (blkOk_by (N := N__law_deed_line) (sc := defScope s__law_deed_line) (by decide +kernel)) (fun _ _ _ _ _ => (pg_name (i := 1) sc__law_deed_line.nd rfl (.inl rfl))) (fun _ _ _ _ _ => pts_nil) (fun _ _ _ _ _ => (pe_ifExp (pt_cmpR op_isN (pv 1) pe_non (nomark _)) pe_str (pe_callTy (call_str_int.or SkE.call_str_str) (by rfl) (z_str T) bb_str (pa_cons (pv 1) pa_nil))))) pa_nil)))), ?_⟩
    refine ⟨rfl, _, rfl, t, rfl, ⟨_, .inl (.inl ht)⟩, fun D nD => ?_⟩
    refine lc_pure x.row (walk_tup (K := K) (a := t) (xs := x.row)) (fun v => some (wrt v)) (SV V.str) (fun _ h => h) nD (Nat.le_trans (row_few x) (by decide)) (fun H' s => .inl (.inl (s _ _ ht))) ?_ ?_
    · rintro i v u H1 H2 hv s1 ⟨rfl, hu⟩ Good Bad kt kf
      rw [hv] at hu
      cases hu
      have g := fun (z : V) (e : z = V.str (wrt v)) => kt z (wrt v) _ rfl (Same.refl _) e
      refine ⟨rfl, yes_i (iteT ?_)⟩
      rcases tx.row v (List.mem_of_getElem? hv) with rfl | ⟨j, rfl, l⟩ | ⟨z, rfl, n⟩
      · exact ⟨_, rfl, rfl, _, rfl, iteT (g _ rfl)⟩
      · exact ⟨_, rfl, rfl, _, rfl, iteF ⟨_, rfl, .inl ⟨j, rfl, small_log l, g _ rfl⟩⟩⟩
      · exact ⟨_, rfl, rfl, _, rfl, iteF ⟨_, rfl, .inr ⟨z, rfl, g _ rfl⟩⟩⟩
    · intro H1 acc s1 d1 p1
      have ea := paired_enc p1
      rw [show x.row.filterMap (fun v => some (wrt v)) = x.row.map wrt from List.filterMap_eq_map ▸ rfl] at ea
      subst ea
      refine ⟨" ", D, x.row.map wrt, rfl, rfl, .inl (.inl (.inl d1)), ?_, q H1 s1⟩
      have := sum_len (ps := x.row.map wrt) fun p hp => by
        obtain ⟨v, hv, rfl⟩ := List.mem_map.1 hp
        exact wrt_len (tx.row v hv)
      rw [List.length_map] at this
      have l := row_few x
      rw [List.length_map, show (" " : Str).length = 1 by decide +kernel]
      omega
end
end Tw

set_option maxHeartbeats 4000000
namespace Tw
open PySem PySem.Spec PyProof.Rows L2
/-! the law's own of texts -/
section
variable {P : Program} {w : World} {K : PySem.W.Frag} {mg : Str → Option Value} {base : Heap}
def sp_lwds : Sp := fun vs H Q _ => ∃ (d : Addr) (m : Md), vs = [.ref d] ∧ MdAt H d m ∧ m.own.length ≤ 10 ∧ m.wd.length ≤ 4 ∧ m.bd.length ≤ 40 ∧ ∀ (D : Addr) (xs : List V) (H' : Hp), Same H H' → H D = none → H' D = some (.lst xs) → Rows H' xs (m.deeds.map Dd.row) → Q (.ref D) H'
theorem cal__law_web_deeds (T : Tp K mg) : Cal P w K mg base 2 "_law_web_deeds" sp_lwds := by
  obtain ⟨fd, F⟩ := f__law_web_deeds T
  refine cal_of F (g__law_web_deeds T) (b__law_web_deeds F) sc__law_web_deeds (fun vs H Q E h => ?_) (fun cdv A outer s H vs Q E hr h => ?_)
  · obtain ⟨d, m, rfl, _⟩ := h
    rfl
  · obtain ⟨d, m, rfl, M, n1, n2, n3, q⟩ := h
    have hu := hu_of hr
    obtain ⟨o, u, b, ws, bs, h1, h2, h3, h4, h5, h6, h7⟩ := M.ex
    refine ⟨_, (pss_cons (ps_set (i := 1) sc__law_web_deeds.nd rfl (.inl rfl) (pe_op op_cat (pe_lst (pa_cons (pe_tup (pa_cons pe_str (pa_cons (pe_dget hu (pv 0) pe_str (fun _ _ => rfl)) pa_nil))) pa_nil)) (pe_lc (own := [("_law_name", 2)]) (g := gName 2) (tt := tYes) rfl sc__law_web_deeds.nd (pi_list (pe_dget hu (pv 0) pe_str (fun _ _ => rfl))) (blkOk_by (N := N__law_web_deeds) (sc := defScope s__law_web_deeds) (by decide +kernel)) (fun _ _ _ _ _ => (pg_name (i := 2) sc__law_web_deeds.nd rfl (.inl rfl))) (fun _ _ _ _ _ => pts_nil) (fun _ _ _ _ _ => (pe_tup (pa_cons pe_str (pa_cons (pv 2) pa_nil)))))))
      (pss_cons (ps_set (i := 1) sc__law_web_deeds.nd rfl (.inl rfl) (pe_op op_cat (pv 1) (pe_lc (own := [("_law_wind_here", 3)]) (g := gName 3) (tt := tYes) rfl sc__law_web_deeds.nd (pi_list (pe_dget hu (pv 0) pe_str (fun _ _ => rfl))) (blkOk_by (N := N__law_web_deeds) (sc := defScope s__law_web_deeds) (by decide +kernel)) (fun _ _ _ _ _ => (pg_name (i := 3) sc__law_web_deeds.nd rfl (.inl rfl))) (fun _ _ _ _ _ => pts_nil) (fun _ _ _ _ _ => (pe_op op_catU (pe_tup (pa_cons pe_str pa_nil)) (pv 3))))))
      (pss_one (ps_ret (pe_op op_cat (pv 1) (pe_lc (own := [("_law_bond_here", 4)]) (g := gName 4) (tt := tYes) rfl sc__law_web_deeds.nd (pi_list (pe_dget hu (pv 0) pe_str (fun _ _ => rfl))) (blkOk_by (N := N__law_web_deeds) (sc := defScope s__law_web_deeds) (by decide +kernel)) (fun _ _ _ _ _ => (pg_name (i := 4) sc__law_web_deeds.nd rfl (.inl rfl))) (fun _ _ _ _ _ => pts_nil) (fun _ _ _ _ _ => (pe_op op_catU (pe_tup (pa_cons pe_str pa_nil)) (pv 4))))))))), ?_⟩
    refine ⟨_, rfl, d, _, rfl, mk_by h1, (by show 2 ≤ sizeLine; decide), fun t0 nt0 => ⟨(by show 1 ≤ sizeLine; decide), fun D nD => ?_⟩⟩
    have s1 : Same H (upd (upd H t0 (.tup [.str "by", .int m.last])) D (.lst [.ref t0])) := (same_upd nt0).trans (same_upd nD)
    have hD1 : (upd (upd H t0 (.tup [.str "by", .int m.last])) D (.lst [.ref t0])) D = some (.lst [.ref t0]) := upd_same
    have R1 : Rows (upd (upd H t0 (.tup [.str "by", .int m.last])) D (.lst [.ref t0])) [.ref t0] [(Dd.las m.last).row] := .cons ⟨t0, rfl, (same_upd nD) _ _ upd_same⟩ .nil
    clear nD nt0
    generalize upd (upd H t0 (.tup [.str "by", .int m.last])) D (.lst [.ref t0]) = H1 at s1 hD1 R1 ⊢
    refine ⟨_, rfl, d, _, rfl, mk_own (s1 _ _ h1), o, rfl, ⟨_, .inl (.inl (s1 _ _ h2))⟩, fun E1 nE1 => ?_⟩
    refine lc_pure m.own (walk_listN (K := K) (a := o) (xs := m.own.map V.str) (List.length_map _)) (fun z => some (Dd.mom z)) (SR Dd.row) sr_k nE1 (by omega) (fun H' s => .inl (.inl (s _ _ (s1 _ _ h2)))) ?_ ?_
    · rintro i z u G1 G2 hz sg ⟨rfl, hu⟩ Good Bad kt kf
      rw [List.getElem?_map, hz] at hu
      cases hu
      exact ⟨rfl, yes_i (iteT ⟨_, rfl, (by show 2 ≤ sizeLine; decide), fun t nt => kt _ _ _ rfl (same_upd nt) ⟨t, rfl, upd_same⟩⟩)⟩
    intro G1 acc sg dg pg
    have fm : m.own.filterMap (fun z => some (Dd.mom z)) = m.own.map Dd.mom := List.filterMap_eq_map ▸ rfl
    rw [fm] at pg
    have l1 := pg.length
    rw [List.length_map] at l1
    refine ⟨D, E1, _, acc, rfl, rfl, sg _ _ hD1, dg, Nat.le_of_lt (small1000 (by rw [l1]; show 1 + m.own.length ≤ 1000; omega)), fun D2 nD2 => ?_⟩
    have sn := same_upd (o := .lst ([.ref t0] ++ acc)) nD2
    have s2 : Same H (upd G1 D2 (.lst ([.ref t0] ++ acc))) := (s1.trans sg).trans sn
    have hD2 : upd G1 D2 (.lst ([.ref t0] ++ acc)) D2 = some (.lst ([.ref t0] ++ acc)) := upd_same
    have R2 : Rows (upd G1 D2 (.lst ([.ref t0] ++ acc))) ([.ref t0] ++ acc) ([(Dd.las m.last).row] ++ (m.own.map Dd.mom).map Dd.row) := rows_app (R1.keep (Kt.of (sg.trans sn))) ((paired_rows pg).keep (Kt.of sn))
    generalize upd G1 D2 (.lst ([.ref t0] ++ acc)) = H2 at s2 hD2 R2 ⊢
    clear sn sg dg pg
    -- wd
    refine ⟨_, rfl, _, rfl, d, _, rfl, mk_wd (s2 _ _ h1), u, rfl, ⟨_, .inl (.inl (s2 _ _ h3))⟩, fun E2 nE2 => ?_⟩
    have rv2 := h4.keep (Kt.of s2)
    have lw2 := rv2.len
    rw [List.length_map] at lw2
    refine lc_pure m.wd (walk_listN (K := K) (a := u) lw2) (fun z => some (Dd.span z)) (SR Dd.row) sr_k nE2 (by omega) (fun H' s => .inl (.inl (s _ _ (s2 _ _ h3)))) ?_ ?_
    · rintro i z u G1 G2 hz sg ⟨rfl, hu⟩ Good Bad kt kf
      obtain ⟨tz, rfl, htz⟩ := rows_at rv2 hu hz
      have s0 := sg _ _ htz
      refine ⟨rfl, yes_i (iteT ⟨(by show 1 ≤ sizeLine; decide), fun ta nta => ⟨_, rfl, ta, tz, _, _, rfl, rfl, upd_same, (same_upd nta) _ _ s0, Nat.le_of_lt (small1000 (Nat.le_of_ble_eq_true rfl)), fun tb H' sb htb => kt _ _ _ rfl ((same_upd nta).trans sb) ⟨tb, rfl, htb⟩⟩⟩)⟩
    intro G2 acc2 sg dg pg
    have fm : m.wd.filterMap (fun z => some (Dd.span z)) = m.wd.map Dd.span := List.filterMap_eq_map ▸ rfl
    rw [fm] at pg
    have l2 := pg.length
    rw [List.length_map] at l2
    have lD2 := R2.len
    refine ⟨D2, E2, _, acc2, rfl, rfl, sg _ _ hD2, dg, Nat.le_of_lt (small1000 (by rw [lD2, l2]; simp only [List.length_append, List.length_map, List.length_cons, List.length_nil]; omega)), fun D3 nD3 => ?_⟩
    have sn := same_upd (o := .lst ([.ref t0] ++ acc ++ acc2)) nD3
    have s3 : Same H (upd G2 D3 (.lst ([.ref t0] ++ acc ++ acc2))) := (s2.trans sg).trans sn
    have nH3 := (s2.trans sg).free nD3
    have hD3 : upd G2 D3 (.lst ([.ref t0] ++ acc ++ acc2)) D3 = some (.lst ([.ref t0] ++ acc ++ acc2)) := upd_same
    have R3 : Rows (upd G2 D3 (.lst ([.ref t0] ++ acc ++ acc2))) ([.ref t0] ++ acc ++ acc2) ([(Dd.las m.last).row] ++ (m.own.map Dd.mom).map Dd.row ++ (m.wd.map Dd.span).map Dd.row) := rows_app (R2.keep (Kt.of (sg.trans sn))) ((paired_rows pg).keep (Kt.of sn))
    generalize upd G2 D3 (.lst ([.ref t0] ++ acc ++ acc2)) = H3 at s3 hD3 R3 ⊢
    clear sn sg dg pg
    -- bd
    refine ⟨_, rfl, _, rfl, d, _, rfl, mk_bd (s3 _ _ h1), b, rfl, ⟨_, .inl (.inl (s3 _ _ h5))⟩, fun E3 nE3 => ?_⟩
    have rv3 := h6.keep (Kt.of s3)
    have lw3 := rv3.len
    rw [List.length_map] at lw3
    refine lc_pure m.bd (walk_listN (K := K) (a := b) lw3) (fun z => some (Dd.tie z)) (SR Dd.row) sr_k nE3 (by omega) (fun H' s => .inl (.inl (s _ _ (s3 _ _ h5)))) ?_ ?_
    · rintro i z u G1 G2 hz sg ⟨rfl, hu⟩ Good Bad kt kf
      obtain ⟨tz, rfl, htz⟩ := rows_at rv3 hu hz
      have s0 := sg _ _ htz
      refine ⟨rfl, yes_i (iteT ⟨(by show 1 ≤ sizeLine; decide), fun ta nta => ⟨_, rfl, ta, tz, _, _, rfl, rfl, upd_same, (same_upd nta) _ _ s0, Nat.le_of_lt (small1000 (Nat.le_of_ble_eq_true rfl)), fun tb H' sb htb => kt _ _ _ rfl ((same_upd nta).trans sb) ⟨tb, rfl, htb⟩⟩⟩)⟩
    intro G3 acc3 sg dg pg
    have fm : m.bd.filterMap (fun z => some (Dd.tie z)) = m.bd.map Dd.tie := List.filterMap_eq_map ▸ rfl
    rw [fm] at pg
    have l3 := pg.length
    rw [List.length_map] at l3
    have lD3 := R3.len
    refine ⟨D3, E3, _, acc3, rfl, rfl, sg _ _ hD3, dg, Nat.le_of_lt (small1000 (by rw [lD3, l3]; simp only [List.length_append, List.length_map, List.length_cons, List.length_nil]; omega)), fun D4 nD4 => ?_⟩
    have sn := same_upd (o := .lst ([.ref t0] ++ acc ++ acc2 ++ acc3)) nD4
    have s4 : Same H (upd G3 D4 (.lst ([.ref t0] ++ acc ++ acc2 ++ acc3))) := (s3.trans sg).trans sn
    have nH4 := (s3.trans sg).free nD4
    have hD4 : upd G3 D4 (.lst ([.ref t0] ++ acc ++ acc2 ++ acc3)) D4 = some (.lst ([.ref t0] ++ acc ++ acc2 ++ acc3)) := upd_same
    have R4 : Rows (upd G3 D4 (.lst ([.ref t0] ++ acc ++ acc2 ++ acc3))) ([.ref t0] ++ acc ++ acc2 ++ acc3) ([(Dd.las m.last).row] ++ (m.own.map Dd.mom).map Dd.row ++ (m.wd.map Dd.span).map Dd.row ++ (m.bd.map Dd.tie).map Dd.row) := rows_app (R3.keep (Kt.of (sg.trans sn))) ((paired_rows pg).keep (Kt.of sn))
    generalize upd G3 D4 (.lst ([.ref t0] ++ acc ++ acc2 ++ acc3)) = H4 at s4 hD4 R4 ⊢
    clear sn sg dg pg
    have eR : [(Dd.las m.last).row] ++ (m.own.map Dd.mom).map Dd.row ++ (m.wd.map Dd.span).map Dd.row ++ (m.bd.map Dd.tie).map Dd.row = m.deeds.map Dd.row := by
      unfold Md.deeds
      rw [List.map_cons, List.map_append, List.map_append, List.append_assoc, List.append_assoc]
      rfl
    rw [eR] at R4
    exact q D4 _ H4 s4 nH4 hD4 R4
end
end Tw

set_option maxHeartbeats 4000000
namespace Tw
open PySem PySem.Spec PyProof.Rows L2
/-! ### the law -/
theorem laid_of {m : Md} (ok : MdOk m) : Laid m := by
  have nm : ∀ z ∈ m.pts, rowV (.str z) = true := fun z h => nm_ok (pts_nm ok h)
  refine ⟨?_, fun r hr => ?_, fun r hr => ?_⟩
  · rw [List.all_eq_true]
    intro v hv
    obtain ⟨z, hz, rfl⟩ := List.mem_map.1 hv
    exact nm z (List.mem_cons_of_mem _ (List.mem_append_left _ hz))
  · obtain ⟨x, hx, rfl⟩ := List.mem_map.1 hr
    have h := ok.wd x hx
    have h1 := nm x.en (List.mem_cons_of_mem _ (List.mem_append_right _ (List.mem_map.2 ⟨x, hx, rfl⟩)))
    have h2 := nm x.bg (by
      rcases h.bg with e | e
      · rw [e]
        exact List.mem_cons_self
      · exact List.mem_cons_of_mem _ (List.mem_append_left _ e))
    show (rowV (.str x.en) && (rowV (.str x.bg) && (true && (true && (rowV (oV x.la) && true))))) = true
    rw [h1, h2]
    cases x.la <;> rfl
  · obtain ⟨x, hx, rfl⟩ := List.mem_map.1 hr
    have h := ok.bd x hx
    show (rowV (.str x.one) && (rowV (.str x.oth) && (rowV (oV x.bot) && (rowV (oV x.top) && true)))) = true
    rw [nm x.one h.one, nm x.oth h.oth]
    cases x.bot <;> cases x.top <;> rfl
section
variable {P : Program} {w : World} {K : PySem.W.Frag} {mg : Str → Option Value} {base : Heap}
def sp_law (K : PySem.W.Frag) : Sp := fun vs H Q _ => ∃ (a : Addr) (ns : List Int), vs = [.ref a] ∧ SqL K H a (ns.map V.int) ∧ H (He.cT K ("law", none)).2 = some (.tbl #[]) ∧ ∀ H', Q (.bl true) H'
theorem nf_own {C : Addr} : PySem.W.notFirst K C (.ref C) = true := by
  unfold PySem.W.notFirst
  rw [show (Value.ref C == Value.ref C) = true from beq_self_eq_true _, Bool.true_or]
theorem ty_web (T : Tp K mg) {H : Hp} {q : Addr} {n : Md} (W : WebAt (CW K) H q n) : TyX K H (.ref q) (.ref (CW K)) := by
  obtain ⟨dx, _, _, _, _, _, g, _⟩ := W.ex
  exact .base (.ins g (cl_Web T) (ti0_Web T) (ti1_Web T) (ti2_Web T) (ti3_Web T))
theorem eq_web (T : Tp K mg) {H : Hp} {Q : VK} {p q : Addr} {m n : Md} (W : WebAt (CW K) H p m) (V' : WebAt (CW K) H q n) (lm : Laid m) (ln : Laid n) (yes : m = n → Q (.bl true) H) (no : m ≠ n → Q (.bl false) H) : rEqO K (CW K) (sp_weq K) (.ref p) (.ref q) H Q := by
  obtain ⟨dx, _, _, _, _, _, g, _⟩ := W.ex
  exact ⟨p, dx, _, _, rfl, g, ty_web T V', nf_own, p, q, m, n, rfl, W, V', lm, ln, fun e => ⟨_, rfl, yes e⟩, fun e => ⟨_, rfl, no e⟩⟩
theorem md7 : MdOk ⟨7, [], [], []⟩ := ⟨⟨by decide, by decide⟩, List.nodup_nil, (fun z h => absurd h List.not_mem_nil), (fun z h => absurd h List.not_mem_nil), (fun z h => absurd h List.not_mem_nil), ⟨by decide, by decide, by decide⟩⟩
theorem ok_law (T : Tp K mg) (TO : TboX w K) (TN : TboN w K) {fd : FuncData} (F : FunD K "law" "law" (defArgs s_law) (defBody s_law) (defScope s_law) [] [] (He.ga K "law") fd) : FnOk P w K mg base CX0 20 (He.ga K "law") fd ["_law_script"] (sp_law K) := by
  refine fnok_of F sc_law (fun vs H Q E h => ?_) (fun cdv A outer s H vs Q E hr h => ?_)
  · obtain ⟨a, ns, rfl, _⟩ := h
    rfl
  · obtain ⟨a, ns, rfl, hS, hT, q⟩ := h
    have hu := hu_of hr
    refine ⟨_, (pss_cons (ps_set (i := 1) sc_law.nd rfl (.inl rfl) (C8.pe_c (cal__law_flow T) hr (by decide) rfl (pa_cons (pv 0) pa_nil)))
      (pss_cons (ps_par (i := 2) (j := 3) (by rfl) sc_law.nd rfl rfl (by decide) rfl rfl (pa_cons (pe_op op_add pe_int (C8.pe_c (cal__law_draw T) hr (by decide) rfl (pa_cons (pv 1) (pa_cons pe_int pa_nil)))) (pa_cons (C8.pe_c (cal__law_draw T) hr (by decide) rfl (pa_cons (pv 1) (pa_cons pe_int pa_nil))) pa_nil)) (by rfl))
      (pss_cons (ps_set (i := 4) sc_law.nd rfl (.inl rfl) (C8.pe_c (cal__law_pick T) hr (by decide) rfl (pa_cons (pv 1) (pa_cons (pe_lst (pa_cons pe_int (pa_cons pe_int (pa_cons pe_int (pa_cons (C8.pe_c (cal__law_draw T) hr (by decide) rfl (pa_cons (pv 1) (pa_cons pe_int pa_nil))) pa_nil))))) pa_nil))))
      (pss_cons (ps_set (i := 5) sc_law.nd rfl (.inl rfl) (C8.pe_c (cal__law_drawn T) hr (by decide) rfl (pa_cons (pv 1) (pa_cons (pv 2) (pa_cons (pv 3) (pa_cons (pv 4) (pa_cons (pe_op op_add pe_int (C8.pe_c (cal__law_draw T) hr (by decide) rfl (pa_cons (pv 1) (pa_cons pe_int pa_nil)))) (pa_cons (pe_op op_add pe_int (C8.pe_c (cal__law_draw T) hr (by decide) rfl (pa_cons (pv 1) (pa_cons pe_int pa_nil)))) pa_nil))))))))
      (pss_cons (ps_set (i := 6) sc_law.nd rfl (.inl rfl) (C8.pe_c (cal__law_web T) hr (by decide) rfl (pa_cons (pv 5) pa_nil)))
      (pss_cons (ps_set (i := 7) sc_law.nd rfl (.inl rfl) (pe_bm PySem.F.plainAttrs_str PySem.F.slot_str_join PySem.F.type_str_join mt_join pe_str (pa_cons (pe_lc (own := [("_law_deed", 9)]) (g := gName 9) (tt := tYes) rfl sc_law.nd (pi_list (C8.pe_c (cal__law_web_deeds T) hr (by decide) rfl (pa_cons (pv 5) pa_nil))) (blkOk_by (N := N_law) (sc := defScope s_law) (by decide +kernel)) (fun _ _ _ _ _ => (pg_name (i := 9) sc_law.nd rfl (.inl rfl))) (fun _ _ _ _ _ => pts_nil) (fun _ _ _ _ _ => (C8.pe_c (cal__law_deed_line T) hr (by decide) rfl (pa_cons (pv 9) pa_nil)))) pa_nil)))
      (pss_cons (ps_if (pt_not (pt_val (C8.pe_c (cal__law_same T) hr (by decide) rfl (pa_cons (C8.pe_c (cal_write_web T) hr (by decide) rfl (pa_cons (pv 6) pa_nil)) (pa_cons (pv 7) pa_nil))))) (pss_one (ps_ret pe_bl)) pss_nil)
      (pss_cons (ps_set (i := 8) sc_law.nd rfl (.inl rfl) (C8.pe_c (cal_read_web T TO TN) hr (by decide) rfl (pa_cons (pv 7) pa_nil)))
      (pss_cons (ps_if (PW.pt (pw_or (pt_not (pt_val (C8.pe_c (cal__law_stands T) hr (by decide) rfl (pa_cons (pv 8) (pa_cons (pv 5) pa_nil))))) (pw_or1 (pt_not (pt_cmpR (op_eqO (met_Web_UeqU T) hr (by decide)) (pv 8) (pv 6) (nomark _)))))) (pss_one (ps_ret pe_bl)) pss_nil)
      (pss_cons (ps_if (PW.pt (pw_or (pt_not (pt_val (C8.pe_c (cal__law_same T) hr (by decide) rfl (pa_cons (C8.pe_c (cal_write_web T) hr (by decide) rfl (pa_cons (pv 8) pa_nil)) (pa_cons (pv 7) pa_nil))))) (pw_or1 (pt_not (pt_val (C8.pe_c (cal__law_stands T) hr (by decide) rfl (pa_cons (pv 6) (pa_cons (pv 5) pa_nil)))))))) (pss_one (ps_ret pe_bl)) pss_nil)
      (pss_one (ps_ret (pe_and (pe_cmpR op_eq (C8.pe_c (cal_write_web T) hr (by decide) rfl (pa_cons (pe_wk (makk_Web T) hr (by decide) rfl pe_int) pa_nil)) pe_str (nomark _)) (pe_one (pe_cmpR (op_eqO (met_Web_UeqU T) hr (by decide)) (C8.pe_c (cal_read_web T TO TN) hr (by decide) rfl (pa_cons pe_str pa_nil)) (C8.pe_mk (mak_Web T) hr (by decide) rfl (pa_cons pe_int pa_nil)) (nomark _)))))))))))))))), ?_⟩
    refine ⟨_, rfl, a, ns, rfl, hS, fun f c H1 s1 nf nc F1 => ?_⟩
    refine ⟨_, rfl, f, c, 10, rfl, F1, by decide, by decide, fun v1 H2 a1 b1 sb1 F2 => ⟨1, v1, rfl, rfl, _, rfl, f, c, 5, rfl, F2, by decide, by decide, fun v2 H3 a2 b2 sb2 F3 => ⟨_, _, rfl, ?_⟩⟩⟩
    refine ⟨_, rfl, _, rfl, f, c, 41, rfl, F3, by decide, by decide, fun v3 H4 a3 b3 sb3 F4 => ⟨(by show 4 ≤ sizeLine; decide), fun L nL => ?_⟩⟩
    obtain ⟨zf, hf⟩ := F4.lst
    have sL := same_upd (o := .lst [.int 0, .int 3, .int 40, .int v3]) nL
    refine ⟨f, c, L, _, rfl, F4.same sL, upd_same, (ne_of_none hf nL).symm, by show 0 < 4; decide, by show 4 ≤ 1000; decide, fun v H6 hv sb6 F6 => ?_⟩
    obtain ⟨e, rfl, e0, e40⟩ : ∃ e : Int, v = .int e ∧ 0 ≤ e ∧ e ≤ 40 := by
      simp only [List.mem_cons, List.not_mem_nil, or_false] at hv
      rcases hv with h | h | h | h
      · exact ⟨_, h, by decide, by decide⟩
      · exact ⟨_, h, by decide, by decide⟩
      · exact ⟨_, h, by decide, by decide⟩
      · exact ⟨_, h, a3, by omega⟩
    refine ⟨_, rfl, _, rfl, _, rfl, _, rfl, _, rfl, f, c, 250, rfl, F6, by decide, by decide, fun v4 H7 a4 b4 sb7 F7 => ⟨1, v4, rfl, rfl, _, rfl, f, c, 1000, rfl, F7, by decide, by decide, fun v5 H8 a5 b5 sb8 F8 => ⟨1, v5, rfl, rfl, ?_⟩⟩⟩
    refine ⟨f, c, 1 + v1, v2, e, 1 + v4, 1 + v5, rfl, F8, by omega, by omega, by omega, by omega, by omega, by omega, by omega, by omega, .inr (by omega), by omega, by omega, fun d m H9 sb9 F9 nd M ok hlast hown hwd hbd near => ?_⟩
    refine ⟨_, rfl, d, m, rfl, M, ok, fun p Ha sa np W => ?_⟩
    have Ma := M.same sa
    have tx := ok.tx
    have txx : ∀ x ∈ m.deeds, x.Tx := fun x hx => (tx x hx).1
    have len := ok.len
    have few : m.deeds.length ≤ 55 := by
      unfold Md.deeds
      rw [List.length_cons, List.length_append, List.length_append, List.length_map, List.length_map, List.length_map]
      omega
    clear hf zf near hlast hown hwd hbd
    -- the text
    refine ⟨rfl, _, rfl, d, m, rfl, Ma, len.1, len.2.1, len.2.2, fun D xs Hb sab nD hD R => ⟨D, rfl, ⟨_, .inl (.inl hD)⟩, fun E nE => ?_⟩⟩
    have lx := R.len
    rw [List.length_map] at lx
    refine lc_pure m.deeds (walk_listN (K := K) (a := D) (xs := xs) lx) (fun x => some x.line) (SV V.str) (fun _ h => h) nE (by omega) (fun H' s => .inl (.inl (s _ _ hD))) ?_ ?_
    · rintro i x u G1 G2 hx sg ⟨rfl, hu⟩ Good Bad kt kf
      obtain ⟨tz, rfl, htz⟩ := rows_at R hu hx
      exact ⟨rfl, yes_i (iteT ⟨_, rfl, tz, x, rfl, sg _ _ htz, txx x (List.mem_of_getElem? hx), fun H' s' => kt _ _ _ rfl s' rfl⟩)⟩
    intro Hc acc sbc dg pg
    have ea := paired_enc pg
    rw [show m.deeds.filterMap (fun x => some x.line) = m.deeds.map Dd.line from List.filterMap_eq_map ▸ rfl] at ea
    subst ea
    refine ⟨"\n", E, m.deeds.map Dd.line, rfl, rfl, .inl (.inl (.inl dg)), ?_, ?_⟩
    · have := sumB 66 (lines_len txx)
      rw [List.length_map] at this
      rw [List.length_map, nl_one]
      omega
    have sac := sab.trans sbc
    have Wc := W.same sac
    have Mc := Ma.same sac
    clear sab sbc dg pg hD R
    refine ⟨_, rfl, p, m, rfl, Wc, txx, fun Hd sd => ⟨_, rfl, _, _, rfl, sm_eq rfl rfl, fun Hq se => ⟨_, rfl, iteF ?_⟩⟩⟩
    have s1e := sd.trans se
    refine ⟨_, rfl, m, rfl, tx, by omega, ok.chn, fun p2 Hf sf np2 W2 => ?_⟩
    have s1f := s1e.trans sf
    refine ⟨_, rfl, _, rfl, p2, d, m, rfl, W2, (Mc.same s1f), fun Hg sg => ⟨_, rfl, iteF ?_⟩⟩
    have lm := laid_of ok
    have s1g := s1f.trans sg
    refine ⟨_, rfl, _, rfl, eq_web T (W2.same sg) (Wc.same s1g) lm lm (fun _ => ?_) (fun e => absurd rfl e)⟩
    refine ⟨_, rfl, iteF ?_⟩
    refine ⟨_, rfl, p2, m, rfl, W2.same sg, txx, fun Hh sh => ⟨_, rfl, _, _, rfl, sm_eq rfl rfl, fun Hi si => ⟨_, rfl, iteF ?_⟩⟩⟩
    have s1i := (s1g.trans sh).trans si
    refine ⟨_, rfl, _, rfl, p, d, m, rfl, Wc.same s1i, Mc.same s1i, fun Hj sj => ⟨_, rfl, iteF ?_⟩⟩
    have e7 : webT ⟨7, [], [], []⟩ = "by 7" := by decide +kernel
    have tx7 := md7.tx
    have tx7' : ∀ x ∈ (⟨7, [], [], []⟩ : Md).deeds, x.Tx := fun x hx => (tx7 x hx).1
    have lm7 := laid_of md7
    have web7 : ∀ {x dx a b c : Addr} {H : Hp}, H x = some (.ins (CW K) dx (wf 7 a b c)) → H a = some (.tup []) → H b = some (.tup []) → H c = some (.tup []) → WebAt (CW K) H x ⟨7, [], [], []⟩ := fun hx ha hb hc => ⟨⟨_, _, _, _, [], [], hx, ha, hb, .nil, hc, .nil⟩, ⟨Nat.zero_le _, Nat.zero_le _, Nat.zero_le _⟩, ⟨by decide, by decide⟩⟩
    refine ⟨rfl, rfl, fun x4 dx4 nx4 ndx4 ne4 => ⟨x4, dx4, 7, rfl, upd_same, by decide, by decide, fun a0 b0 c0 Hk kp hx ha hb hc => ⟨rfl, x4, ⟨7, [], [], []⟩, rfl, web7 hx ha hb hc, tx7', fun Hl sl => ?_⟩⟩⟩
    refine ⟨rfl, _, rfl, ?_⟩
    rw [decide_eq_true (show V.str (webT ⟨7, [], [], []⟩) = V.str "by 7" from congrArg V.str e7)]
    refine iteT ?_
    refine ⟨⟨7, [], [], []⟩, by rw [e7]; rfl, tx7, by show 1 ≤ 60; decide, md7.chn, fun p7 Hm sm np7 W7 => ?_⟩
    refine fun x5 dx5 nx5 ndx5 ne5 => ⟨x5, dx5, 7, rfl, upd_same, by decide, by decide, fun a0 b0 c0 Hn kp2 hx2 ha2 hb2 hc2 => ⟨rfl, ?_⟩⟩
    exact eq_web T (W7.same (Same.made nx5 ndx5 kp2)) (web7 hx2 ha2 hb2 hc2) lm7 lm7 (fun _ => q _) (fun e => absurd rfl e)
end
end Tw

set_option maxHeartbeats 0
namespace Tw
open PySem PySem.Spec PyProof.Rows L2
theorem facts {l : PySem.W.OpenLaw} {w : World} {K : PySem.W.Frag} {h : Heap} {mg : Str → Option Value} {f : Addr} (X : K.In h) (G : h.Ns mainGlobals mg) (hfa : mg ("law" : Str) = some (.ref f)) (c : SaysN fa fn tf ex tb tn w h K) : LamX.LawAtS l w K CX0 20 63 "_law_script" mg f h := by
  have T : Tp K mg := tp_mk X G c.y.d c.y.more
  have e := hfa.symm.trans (g_law T)
  cases e
  obtain ⟨fd, F⟩ := f_law T
  have b := FunD.bindsA (ps := ["_law_script"]) F fun _ _ _ _ _ _ us hl => match us, hl with
    | [_], _ => rfl
  have m : (("law" : Str), (none : Option Str)) ∈ tf := List.mem_cons_self
  have one : ∀ {R : Addr × Addr → Prop}, R (He.cT K ("law", none)) → ∀ p ∈ [He.cT K ("law", none)], R p := fun hR p hp => by
    rw [List.mem_singleton.mp hp]
    exact hR
  exact ⟨fd, [He.cT K ("law", none)], sp_law K, one (c.y.empty _ m), one (c.y.out _ m), one (PySem.W.codeHd_of_K X (c.y.code _ m)), fun s v => b s [v] rfl, fun H a ns _ _ hH hS => ⟨a, ns, rfl, hS, hH _ List.mem_cons_self, fun _ => rfl⟩,
    fun base _ _ hT => ok_law T c.tabo c.tabn F⟩
end Tw
open PySem PySem.W PySem.Calls PyProof.Rows
theorem PySem.Challenge.cw_tidewaiter_k56_webs_written_and_read_holds : PySem.Challenge.rw_tidewaiter_k56_webs_written_and_read.Holds := by
  w_on; o_law
  refine Tw.head_cut (r := Tw.R) (q := view Tw.R.prog [Tw.lawAt]) (H := Tw.hk) (M := 12 + (10 + (30000 + (17000 + (30000 + 2))))) (loose := Tw.loose) (d := HandSHeadRun.topDef Tw.R.prog Tw.lawAt) (kwd := [])
    (by kernel_rfl) (fun s => by kernel_rfl) Tw.run (by kernel_rfl) (by kernel_rfl) (by kernel_rfl) (by rfl) (by first | assumption | decide +kernel) (by decide +kernel) ⟨rfl, rfl, rfl, rfl, rfl, by decide +kernel⟩ ?hw ?hc
  case hw => w_witness2
  case hc =>
    refine LamX.walk_ofTsE (l := PySem.Challenge.rw_tidewaiter_k56_webs_written_and_read) (n := 63) (k := 20) (x := "_law_script") (CX := fun _ => L2.CX0) rfl (by decide) (by kernel_rfl) ⟨rfl, by decide, by decide⟩ ?F (fun _ _ _ _ _ z => z)
    intro w mg fa h Y G hmg0
    obtain ⟨K, KX, c⟩ := Y
    have hmg : mg ("law" : PySem.Str) = some (.ref fa) := by
      have e : (HandSHeadRun.topDef Tw.R.prog Tw.lawAt).name = ("law" : PySem.Str) := by kernel_rfl
      rw [← e]
      exact hmg0
    exact ⟨K, KX, Tw.facts KX G hmg c⟩

